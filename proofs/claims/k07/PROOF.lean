import PyProof.Rows.All
import Wide.All
import OpenK.AllK
import Wide.FinOn
import PyProof.EqAt
import PyProof.EqKinds
import PyProof.TupleCall
import HandS.Base
import HandS.Call
import HandS.List
import HandS.Comp
import HandS.Iter
import HandS.Ends
import HandS.Words
import HandS.WordsList
import HandS.IsInst
import HandS.Flow
import HandS.TupLe
import HandS.Defaults
import KE.GoesMore
import KE.GoesEnum
import PyProof.EnumMake
import PyProof.Draws
import HandS.Walk
import HandS.NoneIn
import HandS.TupAny
import HandS.AnyAll
import HandS.More
import PyProof.EqLayable
import HandS.Conv
import HandS.Zip
import HandS.WordsExc
import HandS.Dict
import KE.KDictList
import HandS.Strs
import HandS.Exc
import HandS.ExcOwn
import HandS.ExcInit
import HandS.ExcField
import HandS.TryMany
import HandS.CallSlots
import KE.KExcIs
import HandS.SetFor
import HandS.Gcd
import KE.KMathGC
import HandS.GenList
import PyProof.ReprRoads
import PySem.Challenge.RW_spentframes_k07_whole_rows_counted_and_f
import HandS.Wide
import PyProof.ExcBaseAll.ValueError
import KE.KStateDown
import HandS.Head0
import HandS.Head1
import HandS.Head2
import HandS.HeadEnd
import HandS.HeadHook1
import HandS.HeadHook2
import HandS.Head3
set_option Elab.async false
set_option linter.all false
set_option maxRecDepth 100000
namespace Z
open PySem L2
/-- a def of the module that may be called, with its promise -/
structure Cal (P : Program) (w : World) (K : PySem.W.Frag) (mg : Str → Option Value) (base : Heap) (CX : CXT) (x : Str) (k : Nat) (sp : Sp) : Prop where
  ex : ∃ (f : Addr) (fd : FuncData) (ps : List Str), mg x = some (.ref f) ∧ PySem.W.keepIn K (.ref f) = true ∧ Binds K fd ps [] ∧ FnOk P w K mg base CX k f fd ps sp
section
variable {X : Cx} {CX : CXT} {x : Str} {k j : Nat} {sp : Sp} {E : XK} {e : Expr} {es : List Expr} {t : TA} {p pos : Pos}
theorem pe_calX (c : Cal X.prog X.w X.K X.mg X.base CX x k sp) (hr : Room k X.A) (hg : Gl X x) (hx : Passes CX X E) (ha : PA X (e :: es) t)
    (hdb : (x == ("__debug__" : Str)) = false := by decide) (he : starEach (e :: es) X.env = (false, eval e X.env) :: starEach es X.env := by rfl) (hpl : (backTo pos (starEach es X.env)).any (·.1) = false := by rfl) :
    PE X (.Call (.Name x p) (e :: es) [] pos) (tCall sp [] E t) := by
  obtain ⟨f, fd, ps, hm, hk, hb, F⟩ := c.ex
  exact pe_call F hr hg hm hk hb .nil hx ha hdb he hpl
theorem pe_cal (c : Cal X.prog X.w X.K X.mg X.base CX0 x k sp) (hr : Room k X.A) (hg : Gl X x) (ha : PA X (e :: es) t)
    (hdb : (x == ("__debug__" : Str)) = false := by decide) (he : starEach (e :: es) X.env = (false, eval e X.env) :: starEach es X.env := by rfl) (hpl : (backTo pos (starEach es X.env)).any (·.1) = false := by rfl) :
    PE X (.Call (.Name x p) (e :: es) [] pos) (tCall sp [] E0 t) := pe_calX c hr hg pass0 ha hdb he hpl
end
theorem iteB {b : Bool} {A B : Prop} (h1 : b = true → A) (h2 : b = false → B) : if b = true then A else B := by
  cases b with
  | true => exact iteT (h1 rfl)
  | false => exact iteF (h2 rfl)
theorem dec_i {i j : Int} : decide (V.int i = V.int j) = decide (i = j) := by
  rw [Bool.eq_iff_iff]
  simp
theorem dec_i_t {i j : Int} (h : decide (V.int i = V.int j) = true) : i = j := by
  rw [dec_i] at h
  exact of_decide_eq_true h
theorem dec_i_f {i j : Int} (h : decide (V.int i = V.int j) = false) : i ≠ j := by
  rw [dec_i] at h
  exact of_decide_eq_false h
/-- the names of built-ins that the law's text reads -/
structure Bl (mg : Str → Option Value) : Prop where
  n_len : mg "len" = none
  n_int : mg "int" = none
  n_abs : mg "abs" = none
  n_range : mg "range" = none
  n_enumerate : mg "enumerate" = none
  n_list : mg "list" = none
  n_tuple : mg "tuple" = none
  n_isinstance : mg "isinstance" = none
  n_bool : mg "bool" = none
  n_str : mg "str" = none
  n_any : mg "any" = none
  n_repr : mg "repr" = none
/-- all but the object at h as it was -/
def Keep (h : Addr) (H H' : Hp) : Prop := ∀ b o, H b = some o → b ≠ h → H' b = some o
theorem Keep.refl (h : Addr) (H : Hp) : Keep h H H := fun _ _ e _ => e
theorem Keep.trans {h : Addr} {H H1 H2 : Hp} (a : Keep h H H1) (b : Keep h H1 H2) : Keep h H H2 := fun c o e n => b c o (a c o e n) n
theorem Keep.of_same {h : Addr} {H H' : Hp} (s : Same H H') : Keep h H H' := fun b o e _ => s b o e
theorem Keep.upd {h : Addr} {H : Hp} {o : HO} : Keep h H (upd H h o) := fun b u e n => by rw [upd_ne n]; exact e
theorem same_new {H : Hp} {p : Addr} {o : HO} (n : H p = none) : Same H (upd H p o) := fun b u e => by rw [upd_ne (ne_of_none e n)]; exact e
theorem Keep.new {h : Addr} {H : Hp} {p : Addr} {o : HO} (n : H p = none) : Keep h H (L2.upd H p o) := .of_same (same_new n)
/-- the draws' hand, at h -/
structure Hnd (H : Hp) (h a : Addr) : Prop where
  ex : ∃ (cells : List Int) (i : Nat) (r t : Int), H h = some (.lst [.ref a, .int (i : Nat), .int r, .int t]) ∧ H a = some (.lst (cells.map V.int)) ∧ a ≠ h ∧ cells.length ≤ 63 ∧ (∀ c ∈ cells, 0 ≤ c) ∧ i ≤ cells.length ∧ 0 ≤ r ∧ 0 ≤ t ∧ t < 2147483549
theorem Hnd.same {H H' : Hp} {h a : Addr} (hn : Hnd H h a) (s : Same H H') : Hnd H' h a := by
  obtain ⟨cs, i, r, t, e1, e2, q⟩ := hn.ex
  exact ⟨cs, i, r, t, s _ _ e1, s _ _ e2, q⟩
theorem Hnd.new {H : Hp} {h a p : Addr} {o : HO} (hn : Hnd H h a) (n : H p = none) : Hnd (upd H p o) h a := hn.same (same_new n)
theorem Hnd.there {H : Hp} {h a : Addr} (hn : Hnd H h a) : ∃ o, H h = some o := by
  obtain ⟨cs, i, r, t, e1, _⟩ := hn.ex
  exact ⟨_, e1⟩
theorem Hnd.ne {H : Hp} {h a p : Addr} (hn : Hnd H h a) (n : H p = none) : p ≠ h := by
  obtain ⟨o, e⟩ := hn.there
  exact (ne_of_none e n).symm
theorem Hnd.nea {H : Hp} {h a p : Addr} (hn : Hnd H h a) (n : H p = none) : p ≠ a := by
  obtain ⟨cs, i, r, t, e1, e2, _⟩ := hn.ex
  exact (ne_of_none e2 n).symm
theorem Hnd.off {H : Hp} {h a p : Addr} {o : HO} (hn : Hnd H h a) (np : p ≠ h) (na : p ≠ a) : Hnd (upd H p o) h a := by
  obtain ⟨cs, i, r, t, e1, e2, q⟩ := hn.ex
  exact ⟨cs, i, r, t, by rw [upd_ne np.symm]; exact e1, by rw [upd_ne na.symm]; exact e2, q⟩
/-! ### promises of the drawing -/
def spMix : Sp := fun vs H Q _ => ∃ a b : Int, vs = [.int a, .int b] ∧ 0 ≤ a ∧ a < 2147483648 ∧ 0 ≤ b ∧ b < 2147483648 ∧ ∀ m : Int, 0 ≤ m → Q (.int m) H
def spDraw : Sp := fun vs H Q _ => ∃ (h a : Addr) (m : Int), vs = [.ref h, .int m] ∧ Hnd H h a ∧ 1 ≤ m ∧ m < 1073741824 ∧
  ∀ (d : Int) (H' : Hp), 0 ≤ d → d < m → Keep h H H' → Hnd H' h a → (∀ b, H b = none → H' b = none) → Q (.int d) H'
end Z

set_option Elab.async false
set_option linter.all false
set_option maxRecDepth 100000
namespace Z
open PySem L2
/-! ### data -/
mutual
theorem Dp.same {K : PySem.W.Frag} {H H' : Hp} (s : Same H H') : ∀ (d : PyData) (v : V), Dp K H v d → Dp K H' v d
  | .none, _, h => by cases h; exact .non
  | .bool b, _, h => by cases h; exact .bl b
  | .int i, _, h => by cases h; exact .int i
  | .str x, _, h => by cases h; exact .str x
  | .list ds, _, h => by
    cases h with
    | lst a b => exact .lst (s.seq a) (DpAll.same s ds _ b)
  | .tuple ds, _, h => by
    cases h with
    | tup a b => exact .tup (by
        rcases a with (a | ⟨o, a⟩) | a
        · exact .inl (.inl (s _ _ a))
        · exact .inl (.inr ⟨o, s _ _ a⟩)
        · exact .inr a) (DpAll.same s ds _ b)
  | .dict _, _, h => by cases h
theorem DpAll.same {K : PySem.W.Frag} {H H' : Hp} (s : Same H H') : ∀ (ds : List PyData) (vs : List V), DpAll K H vs ds → DpAll K H' vs ds
  | [], _, h => by cases h; exact .nil
  | d :: ds, _, h => by
    cases h with
    | cons a b => exact .cons (Dp.same s d _ a) (DpAll.same s ds _ b)
end
theorem Same.sqT {K : PySem.W.Frag} {H H' : Hp} {a : Addr} {xs : List V} (e : Same H H') (h : SqT K H a xs) : SqT K H' a xs := by
  rcases h with (h | ⟨o, h⟩) | h
  · exact .inl (.inl (e _ _ h))
  · exact .inl (.inr ⟨o, e _ _ h⟩)
  · exact .inr h
theorem DpAll.len {K : PySem.W.Frag} {H : Hp} : ∀ {ds : List PyData} {vs : List V}, DpAll K H vs ds → vs.length = ds.length
  | [], _, h => by cases h; rfl
  | d :: ds, _, h => by
    cases h with
    | cons a b => simp [DpAll.len b]
theorem DpAll.get {K : PySem.W.Frag} {H : Hp} : ∀ {ds : List PyData} {vs : List V} {i : Nat} {v : V}, DpAll K H vs ds → vs[i]? = some v → ∃ d, ds[i]? = some d ∧ Dp K H v d
  | [], _, i, v, h, e => by cases h; simp at e
  | d :: ds, _, 0, v, h, e => by
    cases h with
    | cons a b =>
      simp at e
      subst e
      exact ⟨d, rfl, a⟩
  | d :: ds, _, i + 1, v, h, e => by
    cases h with
    | cons a b =>
      obtain ⟨d', h1, h2⟩ := DpAll.get (i := i) (v := v) b (by simpa using e)
      exact ⟨d', by simpa using h1, h2⟩
theorem DpAll.get' {K : PySem.W.Frag} {H : Hp} : ∀ {ds : List PyData} {vs : List V} {i : Nat} {d : PyData}, DpAll K H vs ds → ds[i]? = some d → ∃ v, vs[i]? = some v ∧ Dp K H v d
  | [], _, i, v, h, e => by simp at e
  | d :: ds, _, 0, v, h, e => by
    cases h with
    | cons a b =>
      simp at e
      subst e
      exact ⟨_, rfl, a⟩
  | d :: ds, _, i + 1, v, h, e => by
    cases h with
    | cons a b =>
      obtain ⟨d', h1, h2⟩ := DpAll.get' (i := i) (d := v) b (by simpa using e)
      exact ⟨d', by simpa using h1, h2⟩
theorem DpAll.app {K : PySem.W.Frag} {H : Hp} : ∀ {ds es : List PyData} {vs ws : List V}, DpAll K H vs ds → DpAll K H ws es → DpAll K H (vs ++ ws) (ds ++ es)
  | [], _, _, _, h, g => by cases h; exact g
  | d :: ds, _, _, _, h, g => by
    cases h with
    | cons a b => exact .cons a (DpAll.app b g)
theorem DpAll.take {K : PySem.W.Frag} {H : Hp} : ∀ {ds : List PyData} {vs : List V} (n : Nat), DpAll K H vs ds → DpAll K H (vs.take n) (ds.take n)
  | _, _, 0, _ => by simpa using .nil
  | [], _, n + 1, h => by cases h; exact .nil
  | d :: ds, _, n + 1, h => by
    cases h with
    | cons a b => exact .cons a (DpAll.take n b)
theorem DpAll.drop {K : PySem.W.Frag} {H : Hp} : ∀ {ds : List PyData} {vs : List V} (n : Nat), DpAll K H vs ds → DpAll K H (vs.drop n) (ds.drop n)
  | _, _, 0, h => h
  | [], _, n + 1, h => by cases h; exact .nil
  | d :: ds, _, n + 1, h => by
    cases h with
    | cons a b => exact DpAll.drop n b
/-! ### kinds of data -/
def tyN : PyData → String
  | .none => "NoneType" | .bool _ => "bool" | .int _ => "int" | .str _ => "str" | .list _ => "list" | .tuple _ => "tuple" | .dict _ => "dict"
theorem ty_of_dp {K : PySem.W.Frag} {H : Hp} {d : PyData} {v : V} (h : Dp K H v d) : TyX K H v (.type (tyN d)) := by
  cases h with
  | non => exact .base .non
  | bl b => exact .base (.bl b)
  | int i => exact .base (.int i)
  | str x => exact .base (.str x)
  | lst a _ =>
    rcases a with (a | ⟨o, a⟩) | ⟨o, its, n, k, c, _⟩
    · exact .base (.lst a)
    · exact .base (.frz a)
    · exact .kList k c
  | tup a _ =>
    rcases a with (a | ⟨o, a⟩) | ⟨o, its, n, k, c, _⟩
    · exact .base (.tup a)
    · exact .fTuple a
    · exact .kTuple k c
def isB : PyData → Bool | .bool _ => true | _ => false
def isI : PyData → Bool | .bool _ => true | .int _ => true | _ => false
def isS : PyData → Bool | .str _ => true | _ => false
def isT : PyData → Bool | .tuple _ => true | _ => false
def isL : PyData → Bool | .list _ => true | _ => false
theorem kb_bool (d : PyData) : kitB (tyN d) "bool" = some (isB d) :=
  match d with
  | .none => (by decide +kernel : kitB "NoneType" "bool" = some false)
  | .bool _ => (by decide +kernel : kitB "bool" "bool" = some true)
  | .int _ => (by decide +kernel : kitB "int" "bool" = some false)
  | .str _ => (by decide +kernel : kitB "str" "bool" = some false)
  | .list _ => (by decide +kernel : kitB "list" "bool" = some false)
  | .tuple _ => (by decide +kernel : kitB "tuple" "bool" = some false)
  | .dict _ => (by decide +kernel : kitB "dict" "bool" = some false)
theorem kb_int (d : PyData) : kitB (tyN d) "int" = some (isI d) :=
  match d with
  | .none => (by decide +kernel : kitB "NoneType" "int" = some false)
  | .bool _ => (by decide +kernel : kitB "bool" "int" = some true)
  | .int _ => (by decide +kernel : kitB "int" "int" = some true)
  | .str _ => (by decide +kernel : kitB "str" "int" = some false)
  | .list _ => (by decide +kernel : kitB "list" "int" = some false)
  | .tuple _ => (by decide +kernel : kitB "tuple" "int" = some false)
  | .dict _ => (by decide +kernel : kitB "dict" "int" = some false)
theorem kb_str (d : PyData) : kitB (tyN d) "str" = some (isS d) :=
  match d with
  | .none => (by decide +kernel : kitB "NoneType" "str" = some false)
  | .bool _ => (by decide +kernel : kitB "bool" "str" = some false)
  | .int _ => (by decide +kernel : kitB "int" "str" = some false)
  | .str _ => (by decide +kernel : kitB "str" "str" = some true)
  | .list _ => (by decide +kernel : kitB "list" "str" = some false)
  | .tuple _ => (by decide +kernel : kitB "tuple" "str" = some false)
  | .dict _ => (by decide +kernel : kitB "dict" "str" = some false)
theorem kb_tuple (d : PyData) : kitB (tyN d) "tuple" = some (isT d) :=
  match d with
  | .none => (by decide +kernel : kitB "NoneType" "tuple" = some false)
  | .bool _ => (by decide +kernel : kitB "bool" "tuple" = some false)
  | .int _ => (by decide +kernel : kitB "int" "tuple" = some false)
  | .str _ => (by decide +kernel : kitB "str" "tuple" = some false)
  | .list _ => (by decide +kernel : kitB "list" "tuple" = some false)
  | .tuple _ => (by decide +kernel : kitB "tuple" "tuple" = some true)
  | .dict _ => (by decide +kernel : kitB "dict" "tuple" = some false)
theorem kb_list (d : PyData) : kitB (tyN d) "list" = some (isL d) :=
  match d with
  | .none => (by decide +kernel : kitB "NoneType" "list" = some false)
  | .bool _ => (by decide +kernel : kitB "bool" "list" = some false)
  | .int _ => (by decide +kernel : kitB "int" "list" = some false)
  | .str _ => (by decide +kernel : kitB "str" "list" = some false)
  | .list _ => (by decide +kernel : kitB "list" "list" = some true)
  | .tuple _ => (by decide +kernel : kitB "tuple" "list" = some false)
  | .dict _ => (by decide +kernel : kitB "dict" "list" = some false)
theorem ka_seq {K : PySem.W.Frag} {nm : String} {a b : Bool} (h1 : kitB nm "list" = some a) (h2 : kitB nm "tuple" = some b) : PySem.W.kitAny K (.type nm) [.type "list", .type "tuple"] = some (a || b) := by
  refine kitAny_cons (kit_ty h1) (fun e => ?_) (fun e => by rw [e]; rfl)
  refine kitAny_cons (kit_ty h2) (fun e2 => ?_) (fun e2 => by rw [e2]; simp)
  rw [e, e2]
  exact kitAny_nil
/-- a whole number within bounds -/
def whole (d : PyData) (lo hi : Option Int) : Bool :=
  match d with
  | .int i => (match lo with | some l => decide (l ≤ i) | none => true) && (match hi with | some u => decide (i ≤ u) | none => true)
  | _ => false
def oV : Option Int → V | some i => .int i | none => .non
def spWhole (K : PySem.W.Frag) : Sp := fun vs H Q _ => ∃ (x : V) (d : PyData) (lo hi : Option Int), vs = [x, oV lo, oV hi] ∧ Dp K H x d ∧ Q (.bl (whole d lo hi)) H
/-- what is_sequence is asked: data, or a dict -/
inductive AnyD (K : PySem.W.Frag) (H : Hp) : V → PyData → Prop
  | dp {v : V} {d : PyData} : Dp K H v d → AnyD K H v d
  | dk {a : Addr} : H a = some (.dK []) → AnyD K H (.ref a) (.dict [])
theorem ty_of_any {K : PySem.W.Frag} {H : Hp} {d : PyData} {v : V} (h : AnyD K H v d) : TyX K H v (.type (tyN d)) := by
  cases h with
  | dp h => exact ty_of_dp h
  | dk h => exact .base (.dK h)
theorem AnyD.same {K : PySem.W.Frag} {H H' : Hp} {d : PyData} {v : V} (s : Same H H') (h : AnyD K H v d) : AnyD K H' v d := by
  cases h with
  | dp h => exact .dp (Dp.same s _ _ h)
  | dk h => exact .dk (s _ _ h)
def isSeq (d : PyData) : Bool := isL d || isT d
def spSeq (K : PySem.W.Frag) : Sp := fun vs H Q _ => ∃ (x : V) (d : PyData), vs = [x] ∧ AnyD K H x d ∧ ∀ H', Same H H' → Q (.bl (isSeq d)) H'
def seqOf : PyData → Option (List PyData) | .list ds => some ds | .tuple ds => some ds | _ => none
def couple (d : PyData) (high : Int) : Bool :=
  match seqOf d with
  | some [a, b] => whole a (some 0) (some high) && whole b (some 0) (some high)
  | _ => false
def spCouple (K : PySem.W.Frag) : Sp := fun vs H Q _ => ∃ (x : V) (d : PyData) (hi : Int), vs = [x, .int hi] ∧ Dp K H x d ∧ ∀ H', Same H H' → Q (.bl (couple d hi)) H'
theorem seq_dp {K : PySem.W.Frag} {H : Hp} {d : PyData} {v : V} (h : Dp K H v d) (hs : isSeq d = true) : ∃ (p : Addr) (ys : List V) (ds : List PyData), v = .ref p ∧ (SqL K H p ys ∨ SqT K H p ys) ∧ DpAll K H ys ds ∧ seqOf d = some ds := by
  cases h with
  | lst a b => exact ⟨_, _, _, rfl, .inl a, b, rfl⟩
  | tup a b => exact ⟨_, _, _, rfl, .inr a, b, rfl⟩
  | _ => cases hs
theorem seq_not {d : PyData} (hs : isSeq d = false) : seqOf d = none := by
  cases d with
  | list _ => cases hs
  | tuple _ => cases hs
  | _ => rfl
theorem couple_no {d : PyData} {hi : Int} (hs : isSeq d = false) : couple d hi = false := by
  unfold couple
  rw [seq_not hs]
theorem couple_len {d : PyData} {hi : Int} {ds : List PyData} (hs : seqOf d = some ds) (hl : ds.length ≠ 2) : couple d hi = false := by
  unfold couple
  rw [hs]
  match ds, hl with
  | [], _ => rfl
  | [_], _ => rfl
  | [_, _], h => exact absurd rfl h
  | _ :: _ :: _ :: _, _ => rfl
theorem couple_two {d a b : PyData} {hi : Int} (hs : seqOf d = some [a, b]) : couple d hi = (whole a (some 0) (some hi) && whole b (some 0) (some hi)) := by
  unfold couple
  rw [hs]
theorem two_of {α : Type} {l : List α} (h : l.length = 2) : ∃ a b, l = [a, b] := by
  match l, h with
  | [a, b], _ => exact ⟨a, b, rfl⟩
end Z

set_option Elab.async false
set_option linter.all false
set_option maxRecDepth 100000
namespace PySem
set_option maxHeartbeats 1200000 in
/-- enumerate(v) of whatever begins: its two new cells -/
theorem enu_meets {v : Value} {o : Obj} {G : Heap → Prop} (B : Begins v o G) : Meets (Builtin.«enumerate.__new__» ⟨[.type "enumerate", v], []⟩)
    (fun _ R s => G s.heap ∧ R (.ok (.ret (.ref (s.heap.push o).objs.size)))
      { s with heap := (s.heap.push o).push { cls := .type "enumerate", data := .fields #[.none, .bool false, .ref s.heap.objs.size, rawInt 0, .none, .none] } }) :=
  .of_wp fun prog w A R s0 hg => by
    obtain ⟨hp, gs, dr, tk, os⟩ := s0
    obtain ⟨g1, hR⟩ := hg
    have hsub := sub_enumerate
    have go : ∀ {A' : Around} {E : Value → Shared → Prop} {Q : Value → Shared → Prop}, Q (.ref hp.objs.size) ⟨hp.push o, gs, dr, tk, os⟩ →
        wpAny (model prog w) A' (pyIter v) Q E ⟨hp, gs, dr, tk, os⟩ := fun q => B.iter prog w _ _ ⟨hp, gs, dr, tk, os⟩ _ g1 q
    wp_walk using go
    refine wpAny_stack_any fun st => wpAny_pure ?_
    split
    · rename_i c _ _ _ _ _
      cases (c == Value.type "enumerate") <;> (wp_walk using go; exact ⟨_, rfl, hR⟩)
    · wp_walk using go
      exact ⟨_, rfl, hR⟩
theorem enu_call {prog : Program} {w : World} {A : Around} {E : Value → Shared → Prop} {s : Shared} {v : Value} {o : Obj} {G : Heap → Prop} {Q : Value → Shared → Prop} (B : Begins v o G) (g1 : G s.heap)
    (k : ∀ h2, IsEnum h2 (s.heap.objs.size + 1) s.heap.objs.size 0 .none → h2.get? s.heap.objs.size = some o → (∀ b u, s.heap.get? b = some u → h2.get? b = some u) → Q (.ref (s.heap.objs.size + 1)) { s with heap := h2 }) :
    wpAny (model prog w) A (call (.type "enumerate") [v]) Q E s := by
  have sz1 : (s.heap.push o).objs.size = s.heap.objs.size + 1 := Heap.size_push ..
  refine callType_new F.called_enumerate (by decide) (F.typeCall_enumerate_1 _) (F.newCall_enumerate_1 _) (fun obj => F.args_object_init_2 obj _) F.entry_enumerate_new (enu_meets B) ⟨g1, ?_⟩
  show _ ∧ _
  rw [sz1]
  have en : IsEnum ((s.heap.push o).push { cls := .type "enumerate", data := .fields #[.none, .bool false, .ref s.heap.objs.size, rawInt 0, .none, .none] }) (s.heap.objs.size + 1) s.heap.objs.size 0 .none := by
    have z := Heap.get?_push_size (s.heap.push o) (o := { cls := .type "enumerate", data := .fields #[.none, .bool false, .ref s.heap.objs.size, rawInt 0, .none, .none] }) rfl
    rw [sz1] at z
    exact z
  refine ⟨⟨_, en, rfl⟩, k _ en ?_ ?_⟩
  · exact Heap.get?_push_of_some _ (Heap.get?_push_size _ B.free)
  · exact fun b u e => Heap.get?_push_of_some _ (Heap.get?_push_of_some _ e)
end PySem

namespace Z
open PySem L2 PySem.Spec PyProof.Rows
/-- enumerate of the tuple at a: each item in a new pair -/
def ItU (K : PySem.W.Frag) (a : Addr) : It where
  go i H := ∃ (xs : List V) (x : V), SqT K H a xs ∧ xs[i]? = some x
  yld i H v H' := ∃ T x, v = .ref T ∧ H T = none ∧ H' = upd H T (.tup [.int (i : Nat), x]) ∧ ∀ xs, SqT K H a xs → xs[i]? = some x
  stop i H := ∃ xs : List V, SqT K H a xs ∧ xs.length = i
theorem turn_U {P : Program} {w : World} {K : PySem.W.Frag} {elts : List Expr} {kk : Nat} {tpos : Pos} (a e it : Addr) :
    Turn P w K (.Tuple elts kk tpos) (ItU K a) [e, it] e (fun i h => (∃ old, IsEnum h e it ((i : Nat) : Int) old) ∧ h.IsTupleIter it a i ∧ e ≠ it ∧ a ≠ it) where
  mem := List.mem_cons_self
  obj := by
    intro i h st b hb
    obtain ⟨⟨old, he⟩, ⟨o, ho, hc, hd⟩, _⟩ := st
    rcases List.mem_cons.mp hb with rfl | hb
    · exact ⟨_, he, fun v q => nomatch q⟩
    · obtain rfl := List.mem_singleton.mp hb
      exact ⟨o, ho, fun v q => by rw [hd] at q; cases q⟩
  keep := by
    intro i h h' st kp
    obtain ⟨⟨old, he⟩, hi, hne, hna⟩ := st
    exact ⟨⟨old, kp e (by simp) _ he⟩, hi.at fun o q => kp it (by simp) o q, hne, hna⟩
  item := by
    intro X hP hw hK hc i pins s σ H E I hf st hg
    subst hP hw hK
    obtain ⟨⟨old, he⟩, hit, hne, hna⟩ := st
    obtain ⟨xs, x, hq, hx⟩ := hg
    obtain ⟨its, rv, tp, _⟩ := I.tuple hq
    obtain ⟨u, hu, ru⟩ := rv.get hx
    have tp' : s.heap.IsTuple a its.toArray := tp
    have hel : e < s.heap.objs.size := Heap.lt_size he
    have hil : it < s.heap.objs.size := by
      obtain ⟨_, q, _⟩ := hit
      exact Heap.lt_size q
    have hilt : i < its.toArray.size := by
      have z := (List.getElem?_eq_some_iff.mp hu).1
      simpa using z
    have hal : a ≠ e := fun z => by
      obtain ⟨o, q1, q2, _⟩ := tp'
      rw [z, he] at q1
      cases q1
      have q3 : Value.type "enumerate" = Value.type "tuple" := q2
      exact absurd (Value.type.inj q3) (by decide)
    refine wpAny_pyNext_enum_itemD (Draws.tuple (A := X.A.in1) (show X.A.in1.handled = none from I.ok.hd hc) it a hna its.toArray) he ⟨hit, tp'⟩ hilt hne (by simp [hne, Ne.symm hal]) fun y h' tk hy ho hst hT hsz hk => ?_
    obtain ⟨hit', _⟩ := hst
    have ey : y = u := by
      have z : its[i]? = some y := by simpa using hy
      rw [hu] at z
      exact (Option.some.inj z).symm
    subst ey
    refine ⟨_, rfl, wpAny_letOwnedTupleGo_enum (s := { s with heap := h', toks := tk + 1 }) ho fun h2 he2 sb => ?_⟩
    have hT2 : h2.get? s.heap.objs.size = some { cls := .type "tuple", data := .seq #[.int i tk, y] } := (sb.2 _ (Nat.ne_of_gt hel)).trans hT
    have new : ObjOk X.prog X.w (upd H s.heap.objs.size (.tup [.int (i : Nat), x])) h2 s.heap.objs.size (.tup [.int (i : Nat), x]) := by
      refine ⟨by show 2 ≤ sizeLine; decide, [.int i tk, y], ?_, ⟨_, hT2, rfl, _, rfl⟩⟩
      exact .cons ⟨_, rfl⟩ (.cons ru .nil)
    have I1 : Inv X pins σ (upd H s.heap.objs.size (.tup [.int (i : Nat), x])) { s with heap := h2, toks := tk + 1 } := by
      refine I.turnedNew (ch := [e, it]) (fun b ob hb q => ?_) hf (Nat.le_refl _) new
      have b1 : b ≠ e := fun z => hb (by simp [z])
      have b2 : b ≠ it := fun z => hb (by simp [z])
      exact (sb.2 b b1).trans (hk b ob b1 b2 q)
    refine ⟨.ref s.heap.objs.size, _, I1, rfl, ⟨_, x, rfl, I.hok.fresh (Nat.le_refl _), rfl, fun ys hy => ?_⟩, ⟨⟨y, ?_⟩, hit'.at fun o q => (sb.2 it (Ne.symm hne)).trans q, hne, hna⟩, fun b hb => ?_⟩
    · rw [I.tuple_inj hy hq]
      exact hx
    · have e1 : ((i + 1 : Nat) : Int) = (i : Int) + 1 := by omega
      rw [e1]
      exact he2
    · have hb' : b < s.heap.objs.size := by
        rcases List.mem_cons.mp hb with z | z
        · rw [z]
          exact hel
        · rw [List.mem_singleton.mp z]
          exact hil
      rw [upd_ne (Nat.ne_of_lt hb')]
      exact (hf b hb).1
  done := by
    intro X hP hw hK hc i pins s σ H E I hf st hg
    subst hP hw hK
    obtain ⟨⟨old, he⟩, hit, hne, hna⟩ := st
    obtain ⟨xs, hq, hx⟩ := hg
    obtain ⟨its, rv, tp, _⟩ := I.tuple hq
    obtain ⟨f0, f1, f2, f3, f4, f5⟩ := hf it (by simp)
    have hl : its.toArray.size = i := by
      rw [List.size_toArray, ← rv.length]
      exact hx
    refine wpAny_pyNext_enum_endD (Draws.tuple (A := X.A.in1) (show X.A.in1.handled = none from I.ok.hd hc) it a hna its.toArray) he ⟨?_, tp⟩ fun h' eb => ⟨rfl, I.turned (t' := s.toks) (fun b o hb q => eb b o hb q) f0 f1 f3 f4 f5⟩
    rw [hl]
    exact hit
  self := fun A i s Q E st q => by
    obtain ⟨⟨_, he⟩, _⟩ := st
    exact wpAny_pyIter_enum he q
def iEnumT (K : PySem.W.Frag) (ta : TA) : TI := fun σ H R => ta σ H fun vs H1 => ∃ (a : Addr) (xs : List V), vs = [.ref a] ∧ SqT K H1 a xs ∧ R (ItU K a) H1
set_option maxHeartbeats 2100000 in
theorem pi_enumT {X : Cx} {e : Expr} {ta : TA} {p pos tpos : Pos} {elts : List Expr} {kk : Nat} (hg : Gl X "enumerate") (hm : X.mg "enumerate" = none) (ha : PA X [e] ta) (hs : starEach [e] X.env = [(false, eval e X.env)] := by rfl) :
    PI X (.Tuple elts kk tpos) (.Call (.Name "enumerate" p) [e] [] pos) (iEnumT X.K ta) := by
  constructor
  intro pins s σ H R I hw
  refine Call_ (ld_blt I hg hm boot_enumerate (PyProof.Rows.callWith_type1 (thn (ha.run pos pins s σ H _ I hw) fun us s1 ⟨vs, H1, I1, r1, q1⟩ => ?_) hs rfl))
  obtain ⟨a, xs, rfl, hq, q⟩ := q1
  cases r1 with
  | cons r rr =>
    cases rr
    cases r
    obtain ⟨its, rv, tp, _⟩ := I1.tuple hq
    obtain ⟨ot, q1, q2, q3⟩ := id tp
    refine enu_call (begins_tuple a its.toArray) (show s1.heap.IsTuple a its.toArray from tp) fun h2 he hit hk => wpAny_pyIter_enum he ?_
    have I2 : Inv X pins σ H1 { s1 with heap := h2 } := I1.kept (t' := s1.toks) hk
    have hna : a ≠ s1.heap.objs.size := Nat.ne_of_lt (Heap.lt_size q1)
    refine ⟨s1.heap.objs.size + 1, [s1.heap.objs.size + 1, s1.heap.objs.size], _, _, H1, rfl, I2, turn_U a (s1.heap.objs.size + 1) s1.heap.objs.size, ⟨⟨.none, he⟩, ⟨_, hit, rfl, rfl⟩, Nat.succ_ne_self _, hna⟩, fun b hb => ?_, q⟩
    have hle : s1.heap.objs.size ≤ b := by
      rcases List.mem_cons.mp hb with z | z
      · rw [z]
        exact Nat.le_succ _
      · rw [List.mem_singleton.mp z]
        exact Nat.le_refl _
    exact I1.fpOk hle (I1.hok.fresh hle)
/-- a loop over any walk: an invariant by turns -/
theorem walk_enumT {K : PySem.W.Frag} {a : Addr} {xs : List V} : Walk (ItU K a) xs.length (fun H => SqT K H a xs) (YPair (fun i => some (.int (i : Nat))) (fun i => xs[i]?)) where
  goes := by
    intro i H hi hg
    exact ⟨xs, xs[i], hg, by simp [hi]⟩
  stops := by
    intro H hg
    exact ⟨xs, hg, rfl⟩
  yields := by
    intro i H v H' hi hg hy
    obtain ⟨T, x, ev, hT, eH, hx⟩ := hy
    exact ⟨T, _, x, ev, hT, eH, rfl, hx xs hg⟩
/-- enumerate of a list or of a tuple -/
structure EnA (K : PySem.W.Frag) (ta : TA) (σ : L2.St) (H : Hp) (R : It → Hp → Prop) : Prop where
  or : iEnum K ta σ H R ∨ iEnumT K ta σ H R
theorem pi_enumA {X : Cx} {e : Expr} {ta : TA} {p pos tpos : Pos} {elts : List Expr} {kk : Nat} (hg : Gl X "enumerate") (hm : X.mg "enumerate" = none) (ha : PA X [e] ta) (hs : starEach [e] X.env = [(false, eval e X.env)] := by rfl) :
    PI X (.Tuple elts kk tpos) (.Call (.Name "enumerate" p) [e] [] pos) (EnA X.K ta) :=
  ⟨fun pins s σ H R I h => h.or.elim (fun q => (pi_enum hg hm ha hs).run pins s σ H R I q) (fun q => (pi_enumT hg hm ha hs).run pins s σ H R I q)⟩
/-- what a for asks of the walk J -/
def forR (g : TG) (tb : TS) (D : Ends) (σ : L2.St) (J : It) (H1 : Hp) : Prop := ∃ W : Nat → Nat → L2.St → Hp → Prop, (∃ m, W 0 m σ H1) ∧ ∀ i m σ H, W i m σ H →
  (J.stop i H ∧ D.nx σ H) ∨ (J.go i H ∧ ∃ N : L2.St → Hp → Prop, (∀ σ' H', N σ' H' → ∃ m', m' < m ∧ W (i + 1) m' σ' H') ∧ ∀ x H', J.yld i H x H' → g x σ H' fun σ2 H2 => tb { D with nx := N, ct := N, bk := D.nx } σ2 H2)
theorem for_enumA {K : PySem.W.Frag} {i0 : Nat} {a : Addr} {xs : List V} {g : TG} {tb : TS} {D : Ends} {σ : L2.St} {H : Hp} (hq : SqL K H a xs ∨ SqT K H a xs) (Pv : Nat → L2.St → Hp → Prop) (h0 : Pv 0 σ H)
    (hG : ∀ i σ H', Pv i σ H' → Same H H')
    (hs : ∀ i x T σ H', xs[i]? = some x → Pv i σ H' → H' T = none → g (.ref T) σ (upd H' T (.tup [.int (i : Nat), x])) fun σ2 H2 => tb { D with nx := Pv (i + 1), ct := Pv (i + 1), bk := D.nx } σ2 H2)
    (hd : ∀ σ H', Pv xs.length σ H' → D.nx σ H') :
    σ[i0]? = some (some (V.ref a)) → EnA K (tCons (tVar i0) tNil) σ H (fun J H1 => forR g tb D σ J H1) := by
  intro e0
  refine ⟨?_⟩
  rcases hq with hq | hq
  · refine .inl ⟨_, e0, a, xs, rfl, hq, for_it (walk_enum (K := K) (a := a) (xs := xs)) Pv h0 (fun i σ H' _ p => (hG i σ H' p).seq hq) (fun i v σ H1 H2 hi p y => ?_) hd⟩
    obtain ⟨T, x, y, rfl, hT, rfl, e1, e2⟩ := y
    cases e1
    exact hs i y T σ H1 e2 p hT
  · refine .inr ⟨_, e0, a, xs, rfl, hq, for_it (walk_enumT (K := K) (a := a) (xs := xs)) Pv h0 (fun i σ H' _ p => by
      rcases hq with (h | ⟨o, h⟩) | h
      · exact .inl (.inl (hG i σ H' p _ _ h))
      · exact .inl (.inr ⟨o, hG i σ H' p _ _ h⟩)
      · exact .inr h) (fun i v σ H1 H2 hi p y => ?_) hd⟩
    obtain ⟨T, x, y, rfl, hT, rfl, e1, e2⟩ := y
    cases e1
    exact hs i y T σ H1 e2 p hT
end Z

set_option Elab.async false
set_option linter.all false
set_option maxRecDepth 100000
namespace Z
open PySem L2
theorem same_mut {H H' : Hp} {p : Addr} {o : HO} (e : Same H H') (h : H p = none) : Same H (upd H' p o) := fun a u ha => by
  rw [upd_ne (ne_of_none ha h)]
  exact e a u ha
theorem ne_of_none' {H : Hp} {a b : Addr} {o : HO} (h : H a = some o) (h' : H b = none) : b ≠ a := (ne_of_none h h').symm
/-! ### a walk of a list or of a tuple; an unpacking of either -/
structure ItA (K : PySem.W.Frag) (tl : TE) (σ : L2.St) (H : Hp) (R : It → Hp → Prop) : Prop where
  or : iList K tl σ H R ∨ iTup K tl σ H R
theorem pi_seqA {X : Cx} {tg l : Expr} {tl : TE} (hl : PE X l tl) : PI X tg l (ItA X.K tl) :=
  ⟨fun pins s σ H R I h => h.or.elim (fun q => (pi_list hl).run pins s σ H R I q) (fun q => (pi_tup hl).run pins s σ H R I q)⟩
theorem for_seqA {K : PySem.W.Frag} {i0 : Nat} {a : Addr} {xs : List V} {g : TG} {tb : TS} {D : Ends} {σ : L2.St} {H H0 : Hp} (hq : SqL K H0 a xs ∨ SqT K H0 a xs) (Pv : Nat → L2.St → Hp → Prop) (h0 : Pv 0 σ H)
    (hG : ∀ i σ H', Pv i σ H' → Same H0 H')
    (hs : ∀ i x σ H', xs[i]? = some x → Pv i σ H' → g x σ H' fun σ2 H2 => tb { D with nx := Pv (i + 1), ct := Pv (i + 1), bk := D.nx } σ2 H2)
    (hd : ∀ σ H', Pv xs.length σ H' → D.nx σ H') :
    σ[i0]? = some (some (V.ref a)) → ItA K (tVar i0) σ H (fun J H1 => forR g tb D σ J H1) := by
  intro e0
  refine ⟨?_⟩
  rcases hq with hq | hq
  · exact .inl ⟨_, e0, a, rfl, ⟨xs, (hG 0 σ H h0).seq hq⟩, for_it (walk_list (K := K) (a := a) (xs := xs)) Pv h0 (fun i σ H' _ p => (hG i σ H' p).seq hq) (fun i v σ H1 H2 hi p y => by
      obtain ⟨rfl, e⟩ := y
      exact hs i v σ _ e p) hd⟩
  · exact .inr ⟨_, e0, a, rfl, ⟨xs, Same.sqT (hG 0 σ H h0) hq⟩, for_it (walk_tup (K := K) (a := a) (xs := xs)) Pv h0 (fun i σ H' _ p => Same.sqT (hG i σ H' p) hq) (fun i v σ H1 H2 hi p y => by
      obtain ⟨rfl, e⟩ := y
      exact hs i v σ _ e p) hd⟩
structure GuA (K : PySem.W.Frag) (n : Nat) (t : TGs) (v : V) (σ : L2.St) (H : Hp) (Q : L2.St → Hp → Prop) : Prop where
  or : gTup K n t v σ H Q ∨ gUnl K n t v σ H Q
theorem pg_unA {X : Cx} {es : List Expr} {k : Nat} {t : TGs} {n : Nat} {pos : Pos} (hc : X.calm = true) (h : PGs X es t)
    (hn : (assignEach es X.env).length = n := by rfl) (hst : (assignEach es X.env).findIdx? (·.1) = none := by rfl) : PG X (.Tuple es k pos) (GuA X.K n t) :=
  ⟨fun pins s σ H v u Q I r hw => hw.or.elim (fun q => (pg_tup hc h hn hst).run pins s σ H v u Q I r q) (fun q => (pg_unl hc h hn hst).run pins s σ H v u Q I r q)⟩
theorem ixN_nat {n y : Nat} (h : y < n) : ixN n (y : Int) = some y := by
  unfold ixN
  rw [if_pos (by omega), if_pos (by omega)]
  simp
/-! ### a square of truth values -/
def rowV (n : Nat) (f : Nat → Bool) : List V := (List.range n).map fun y => V.bl (f y)
theorem rowV_len {n : Nat} {f : Nat → Bool} : (rowV n f).length = n := by simp [rowV]
theorem rowV_get {n y : Nat} {f : Nat → Bool} (h : y < n) : (rowV n f)[y]? = some (.bl (f y)) := by simp [rowV, h]
theorem rowV_at {n y : Nat} {f : Nat → Bool} (h : y < n) : atI (rowV n f) (y : Int) = some (.bl (f y)) := atI_nat (rowV_get h)
theorem rowV_congr {n : Nat} {f g : Nat → Bool} (h : ∀ y, y < n → f y = g y) : rowV n f = rowV n g := by
  unfold rowV
  refine List.map_congr_left fun y hy => ?_
  rw [h y (List.mem_range.mp hy)]
theorem rowV_set {n y : Nat} {f : Nat → Bool} {b : Bool} (h : y < n) : (rowV n f).set y (.bl b) = rowV n (fun z => if z = y then b else f z) := by
  refine List.ext_getElem? fun z => ?_
  by_cases hz : z < n
  · rw [rowV_get hz]
    by_cases e : z = y
    · subst e
      rw [List.getElem?_set_self (by rw [rowV_len]; exact hz), if_pos rfl]
    · rw [List.getElem?_set_ne (Ne.symm e), rowV_get hz, if_neg e]
  · have h1 : (rowV n f).length ≤ z := by rw [rowV_len]; omega
    have h2 : (rowV n (fun z => if z = y then b else f z)).length ≤ z := by rw [rowV_len]; omega
    rw [List.getElem?_eq_none (by rw [List.length_set]; exact h1), List.getElem?_eq_none h2]
theorem rowV_rep {n : Nat} : (List.replicate n [V.bl false]).flatten = rowV n (fun _ => false) := by
  unfold rowV
  induction n with
  | zero => rfl
  | succ n ih =>
    rw [List.replicate_succ, List.flatten_cons, ih, List.range_succ_eq_map, List.map_cons, List.map_map]
    rfl
theorem rowV_snoc {n : Nat} {f : Nat → Bool} : rowV n f ++ [.bl (f n)] = rowV (n + 1) f := by
  unfold rowV
  rw [List.range_succ, List.map_append]
  rfl
structure MatAt (H : Hp) (p : Addr) (n : Nat) (M : Nat → Nat → Bool) (rs : List Addr) : Prop where
  top : H p = some (.lst (rs.map V.ref))
  len : rs.length = n
  row : ∀ x r, rs[x]? = some r → H r = some (.lst (rowV n (M x)))
  nd : rs.Nodup
  np : p ∉ rs
theorem MatAt.same {H H' : Hp} {p : Addr} {n : Nat} {M : Nat → Nat → Bool} {rs : List Addr} (m : MatAt H p n M rs) (s : Same H H') : MatAt H' p n M rs :=
  ⟨s _ _ m.top, m.len, fun x r e => s _ _ (m.row x r e), m.nd, m.np⟩
theorem MatAt.get {H : Hp} {p : Addr} {n : Nat} {M : Nat → Nat → Bool} {rs : List Addr} (m : MatAt H p n M rs) {x : Nat} (hx : x < n) : ∃ r, rs[x]? = some r ∧ atI (rs.map V.ref) (x : Int) = some (.ref r) ∧ H r = some (.lst (rowV n (M x))) := by
  have hl : x < rs.length := by rw [m.len]; exact hx
  have e : rs[x]? = some rs[x] := by simp [hl]
  exact ⟨rs[x], e, atI_nat (by rw [List.getElem?_map, e]; rfl), m.row x _ e⟩
theorem nodup_ix2 {l : List Addr} (nd : l.Nodup) {i j : Nat} {r : Addr} (h1 : l[i]? = some r) (h2 : l[j]? = some r) : i = j := by
  obtain ⟨a, e1⟩ := List.getElem?_eq_some_iff.mp h1
  obtain ⟨b, e2⟩ := List.getElem?_eq_some_iff.mp h2
  exact (List.getElem_inj nd).mp (e1.trans e2.symm)
theorem MatAt.congr {H : Hp} {p : Addr} {n : Nat} {M M' : Nat → Nat → Bool} {rs : List Addr} (m : MatAt H p n M rs) (h : ∀ x y, x < n → y < n → M x y = M' x y) : MatAt H p n M' rs :=
  ⟨m.top, m.len, fun x r e => by
    have hx : x < n := by
      have := (List.getElem?_eq_some_iff.mp e).1
      rw [m.len] at this
      exact this
    rw [m.row x r e, rowV_congr fun y hy => h x y hx hy], m.nd, m.np⟩
def setM (M : Nat → Nat → Bool) (x y : Nat) (b : Bool) : Nat → Nat → Bool := fun a c => if a = x then (if c = y then b else M x c) else M a c
theorem MatAt.put {H : Hp} {p : Addr} {n : Nat} {M : Nat → Nat → Bool} {rs : List Addr} (m : MatAt H p n M rs) {x y : Nat} {r : Addr} {b : Bool} (hr : rs[x]? = some r) (hy : y < n) : MatAt (upd H r (.lst ((rowV n (M x)).set y (.bl b)))) p n (setM M x y b) rs := by
  have hm : r ∈ rs := List.mem_of_getElem? hr
  refine ⟨?_, m.len, fun a r' e => ?_, m.nd, m.np⟩
  · rw [upd_ne (fun z => m.np (by rw [z]; exact hm))]
    exact m.top
  · by_cases ha : a = x
    · subst ha
      rw [e] at hr
      cases hr
      rw [upd_same, rowV_set hy]
      refine congrArg (fun l => some (HO.lst l)) (rowV_congr fun c _ => ?_)
      unfold setM
      rw [if_pos rfl]
    · have ne : r' ≠ r := fun z => ha (nodup_ix2 m.nd e (z ▸ hr))
      rw [upd_ne ne, m.row a r' e]
      refine congrArg (fun l => some (HO.lst l)) (rowV_congr fun c _ => ?_)
      unfold setM
      rw [if_neg ha]
theorem MatAt.swap {H : Hp} {p D : Addr} {n : Nat} {M : Nat → Nat → Bool} {rs : List Addr} (m : MatAt H p n M rs) {x : Nat} {f : Nat → Bool} (hD : H D = some (.lst (rowV n f))) (nD : D ∉ rs) (np : D ≠ p) :
    MatAt (upd H p (.lst ((rs.map V.ref).set x (.ref D)))) p n (fun a => if a = x then f else M a) (rs.set x D) := by
  refine ⟨?_, by rw [List.length_set]; exact m.len, fun a r e => ?_, ?_, ?_⟩
  · rw [upd_same, List.map_set]
  · have hr : r ≠ p := by
      intro z
      have hm := List.mem_of_getElem? e
      rcases List.mem_or_eq_of_mem_set hm with h | h
      · exact m.np (z ▸ h)
      · exact np (h ▸ z)
    rw [upd_ne hr]
    by_cases ha : a = x
    · subst ha
      have hl : a < rs.length := by
        have := (List.getElem?_eq_some_iff.mp e).1
        rw [List.length_set] at this
        exact this
      rw [List.getElem?_set_self hl] at e
      cases e
      rw [if_pos rfl]
      exact hD
    · rw [List.getElem?_set_ne (Ne.symm ha)] at e
      rw [if_neg ha]
      exact m.row a r e
  · by_cases hl : x < rs.length
    · refine List.pairwise_iff_getElem.mpr fun i j hi hj hij => ?_
      rw [List.getElem_set, List.getElem_set]
      rw [List.length_set] at hi hj
      have nd := List.pairwise_iff_getElem.mp m.nd i j hi hj hij
      by_cases e1 : x = i
      · rw [if_pos e1, if_neg (by omega)]
        intro z
        exact nD (z ▸ List.getElem_mem hj)
      · rw [if_neg e1]
        by_cases e2 : x = j
        · rw [if_pos e2]
          intro z
          exact nD (z ▸ List.getElem_mem hi)
        · rw [if_neg e2]
          exact nd
    · rw [List.set_eq_of_length_le (by omega)]
      exact m.nd
  · intro z
    rcases List.mem_or_eq_of_mem_set z with h | h
    · exact m.np h
    · exact np h.symm
/-! ### the closing of a relation -/
def relax (M : Nat → Nat → Bool) (mid low : Nat) : Nat → Nat → Bool := if M low mid then (fun a => if a = low then (fun b => M low b || M mid b) else M a) else M
def relaxes (M : Nat → Nat → Bool) (mid : Nat) : Nat → (Nat → Nat → Bool)
  | 0 => M
  | k + 1 => relax (relaxes M mid k) mid k
def closeM (n : Nat) (M : Nat → Nat → Bool) : Nat → (Nat → Nat → Bool)
  | 0 => M
  | k + 1 => relaxes (closeM n M k) k n
def prOf (d : PyData) : Nat × Nat :=
  match seqOf d with
  | some [.int a, .int b] => (a.toNat, b.toNat)
  | _ => (0, 0)
def initM (prs : List (Nat × Nat)) : Nat → Nat → Bool := fun a b => decide ((a, b) ∈ prs)
theorem initM_snoc {prs : List (Nat × Nat)} {x y : Nat} : setM (initM prs) x y true = initM (prs ++ [(x, y)]) := by
  funext a b
  unfold setM initM
  by_cases ha : a = x
  · subst ha
    by_cases hb : b = y
    · subst hb
      simp
    · simp [hb]
  · simp [ha]
theorem couple_ok {d : PyData} {hi : Int} (h : couple d hi = true) : ∃ a b : Nat, seqOf d = some [.int a, .int b] ∧ prOf d = (a, b) ∧ (a : Int) ≤ hi ∧ (b : Int) ≤ hi := by
  unfold couple at h
  cases hs : seqOf d with
  | none =>
    rw [hs] at h
    cases h
  | some l =>
    rw [hs] at h
    match l, h with
    | [u, v], h =>
      have h' : (whole u (some 0) (some hi) && whole v (some 0) (some hi)) = true := h
      rw [Bool.and_eq_true] at h'
      obtain ⟨h1, h2⟩ := h'
      cases u with
      | int i =>
        cases v with
        | int j =>
          simp only [whole, Bool.and_eq_true, decide_eq_true_eq] at h1 h2
          have ei : ((i.toNat : Nat) : Int) = i := by omega
          have ej : ((j.toNat : Nat) : Int) = j := by omega
          refine ⟨i.toNat, j.toNat, by rw [ei, ej], ?_, by omega, by omega⟩
          unfold prOf
          rw [hs]
        | _ => cases h2
      | _ => cases h1
end Z

set_option Elab.async false
set_option linter.all false
set_option maxRecDepth 100000
namespace Z
open PySem L2
/-! ### the rules by the written part's own name, so that they stand in a comprehension's block too -/
section
variable {X : Cx}
theorem kix_list (K : PySem.W.Frag) (h : X.K = K := by rfl) : IxR X (rIxL K) := by
  rw [← h]
  exact ix_list
theorem kix_tup (K : PySem.W.Frag) (h : X.K = K := by rfl) : IxR X (rIxT K) := by
  rw [← h]
  exact ix_tup
theorem kix_seq (K : PySem.W.Frag) (h : X.K = K := by rfl) : IxR X (rIx K) := by
  rw [← h]
  exact ix_seq
def rLenQ (K : PySem.W.Frag) : List V → Hp → VK → Prop := fun xs H Q => ∃ p ys, xs = [.ref p] ∧ (SqL K H p ys ∨ SqT K H p ys) ∧ Q (.int ys.length) H
theorem klen (K : PySem.W.Frag) (h : X.K = K := by rfl) : CallR X (.builtin "len") (rLenQ K) := by
  rw [← h]
  exact call_len_seq
def rListQ (K : PySem.W.Frag) : List V → Hp → VK → Prop := fun xs H Q => ∃ p ys, xs = [.ref p] ∧ (SqL K H p ys ∨ SqT K H p ys) ∧ ∀ l, H l = none → Q (.ref l) (upd H l (.lst ys))
theorem klist_of (K : PySem.W.Frag) (h : X.K = K := by rfl) : CallR X (.type "list") (rListQ K) := by
  rw [← h]
  exact call_list_of
def rTupQ (K : PySem.W.Frag) : List V → Hp → VK → Prop := fun xs H Q => ∃ p ys, xs = [.ref p] ∧ ((SqL K H p ys ∧ ∀ l, H l = none → Q (.ref l) (upd H l (.tup ys))) ∨ (SqT K H p ys ∧ Q (.ref p) H))
theorem ktuple_of (K : PySem.W.Frag) (h : X.K = K := by rfl) : CallR X (.type "tuple") (rTupQ K) := by
  rw [← h]
  exact call_tuple_of
theorem kin_seq (K : PySem.W.Frag) (h : X.K = K := by rfl) : OpR X (compareOp .In) (rIn K false) := by
  rw [← h]
  exact op_in_seq
theorem knotin_seq (K : PySem.W.Frag) (h : X.K = K := by rfl) : OpR X (compareOp .NotIn) (rIn K true) := by
  rw [← h]
  exact op_notIn_seq
theorem kisi (K : PySem.W.Frag) (h : X.K = K := by rfl) : CallR X (.builtin "isinstance") (rIsi K) := by
  rw [← h]
  exact call_isi
theorem kisiT (K : PySem.W.Frag) (h : X.K = K := by rfl) : CallR X (.builtin "isinstance") (rIsiT K) := by
  rw [← h]
  exact call_isiT
theorem kany (K : PySem.W.Frag) (hc : X.calm = true) (h : X.K = K := by rfl) : CallR X (.builtin "any") (rAny K) := by
  rw [← h]
  exact cr_any hc
theorem kcatT (K : PySem.W.Frag) (h : X.K = K := by rfl) : OpR X (binaryOp .Add) (rCatA K) := by
  rw [← h]
  exact op_catA
theorem ksl_list (K : PySem.W.Frag) (h : X.K = K := by rfl) : L2.SlR X (rSlL K) := by
  rw [← h]
  exact sl_list
theorem ksl_tup (K : PySem.W.Frag) (h : X.K = K := by rfl) : L2.SlR X (rSlA K) := by
  rw [← h]
  exact sl_tupA
theorem keqD (K : PySem.W.Frag) (hu : X.A.units + 64 < cLine) (h : X.K = K := by rfl) : OpR X (compareOp .Eq) (rEqD K) := by
  rw [← h]
  exact op_eqD hu
theorem kneD (K : PySem.W.Frag) (hu : X.A.units + 64 < cLine) (h : X.K = K := by rfl) : OpR X (compareOp .NotEq) (rNeD K) := by
  rw [← h]
  exact op_neD hu
def tTruQ (K : PySem.W.Frag) (ta : TE) : TT := fun σ H Q => ta σ H fun x H' => ∃ k, TruV K x H' k ∧ Q k H'
theorem kt_truth (K : PySem.W.Frag) {a : Expr} {ta : TE} (ha : PE X a ta) (he : ∀ whole, isTrue a X.env whole = (do let v ← whole; standAt a.pos; holding [v] (truthy v))) (h : X.K = K := by rfl) : PT X a (tTruQ K ta) := by
  rw [← h]
  exact pt_truth ha he
theorem kpi_list (K : PySem.W.Frag) {tg l : Expr} {tl : TE} (hl : PE X l tl) (h : X.K = K := by rfl) : PI X tg l (iList K tl) := by
  rw [← h]
  exact pi_list hl
theorem kpi_tup (K : PySem.W.Frag) {tg l : Expr} {tl : TE} (hl : PE X l tl) (h : X.K = K := by rfl) : PI X tg l (iTup K tl) := by
  rw [← h]
  exact pi_tup hl
theorem kpi_seqA (K : PySem.W.Frag) {tg l : Expr} {tl : TE} (hl : PE X l tl) (h : X.K = K := by rfl) : PI X tg l (ItA K tl) := by
  rw [← h]
  exact pi_seqA hl
theorem kfld (K : PySem.W.Frag) {e : Expr} {ta : TE} {f : Str} {pos : Pos} (he : PE X e ta) (hb : attributeBase e f X.env (eval e X.env) = eval e X.env) (h : X.K = K := by rfl) : PE X (.Attribute e f pos) (tFld K ta f) := by
  rw [← h]
  exact pe_fld he hb
end
end Z

set_option Elab.async false
set_option linter.all false
set_option maxRecDepth 100000
namespace Z
open PySem L2
/-! ## values without a heap -/
inductive D where
  | non | bl (b : Bool) | int (i : Int) | str (x : Str)
  | lst (ds : List D) | tup (ds : List D) | dct (ks : List Key) (ds : List D)
  | obj (C : Addr) (ns : List Str) (ds : List D) | cls (C : Addr) | hnd | ty (n : String)
  | tpx (ds : List D)
mutual
inductive Rv (K : PySem.W.Frag) (hd : Option Addr) (F : Hp) : V → D → Prop
  | non : Rv K hd F .non .non
  | bl (b : Bool) : Rv K hd F (.bl b) (.bl b)
  | int (i : Int) : Rv K hd F (.int i) (.int i)
  | str (x : Str) : Rv K hd F (.str x) (.str x)
  | lst {a : Addr} {xs : List V} {ds : List D} : F a = some (.lst xs) → RvA K hd F xs ds → Rv K hd F (.ref a) (.lst ds)
  | tup {a : Addr} {xs : List V} {ds : List D} : SqT K F a xs → RvA K hd F xs ds → Rv K hd F (.ref a) (.tup ds)
  | dct {a : Addr} {kv : List (Key × V)} {ks : List Key} {ds : List D} : F a = some (.dK kv) → kv.map (·.1) = ks → RvA K hd F (kv.map (·.2)) ds → Rv K hd F (.ref a) (.dct ks ds)
  | obj {a C dx : Addr} {fs : List (Str × V)} {ns : List Str} {ds : List D} : F a = some (.ins C dx fs) → fs.map (·.1) = ns → RvA K hd F (fs.map (·.2)) ds → Rv K hd F (.ref a) (.obj C ns ds)
  | cls (C : Addr) : Rv K hd F (.ref C) (.cls C)
  | ty (n : String) : Rv K hd F (.ty n) (.ty n)
  | tpx {a : Addr} {o : Obj} {xs : List V} {ds : List D} : F a = some (.frz o (.tup xs)) → o.dict = none → RvA K hd F xs ds → Rv K hd F (.ref a) (.tpx ds)
  | hnd {h : Addr} : hd = some h → Rv K hd F (.ref h) .hnd
inductive RvA (K : PySem.W.Frag) (hd : Option Addr) (F : Hp) : List V → List D → Prop
  | nil : RvA K hd F [] []
  | cons {v : V} {vs : List V} {d : D} {ds : List D} : Rv K hd F v d → RvA K hd F vs ds → RvA K hd F (v :: vs) (d :: ds)
end
section
variable {K : PySem.W.Frag} {hd : Option Addr} {F F' : Hp}
theorem Rd.same {H H' : Hp} {a : Addr} {u : HO} (s : Same H H') (h : Rd H a u) : Rd H' a u := by
  rcases h with h | ⟨o, h⟩
  · exact .inl (s _ _ h)
  · exact .inr ⟨o, s _ _ h⟩
mutual
theorem Rv.same (s : Same F F') : ∀ (d : D) (v : V), Rv K hd F v d → Rv K hd F' v d
  | .non, _, h => by cases h; exact .non
  | .bl b, _, h => by cases h; exact .bl b
  | .int i, _, h => by cases h; exact .int i
  | .str x, _, h => by cases h; exact .str x
  | .lst ds, _, h => by
    cases h with
    | lst a b => exact .lst (s _ _ a) (RvA.same s ds _ b)
  | .tup ds, _, h => by
    cases h with
    | tup a b => exact .tup (Same.sqT s a) (RvA.same s ds _ b)
  | .dct ks ds, _, h => by
    cases h with
    | dct a e b => exact .dct (s _ _ a) e (RvA.same s ds _ b)
  | .obj C ns ds, _, h => by
    cases h with
    | obj a e b => exact .obj (s _ _ a) e (RvA.same s ds _ b)
  | .cls C, _, h => by cases h; exact .cls _
  | .ty n, _, h => by cases h; exact .ty _
  | .tpx ds, _, h => by
    cases h with
    | tpx a e b => exact .tpx (s _ _ a) e (RvA.same s ds _ b)
  | .hnd, _, h => by
    cases h with
    | hnd e => exact .hnd e
theorem RvA.same (s : Same F F') : ∀ (ds : List D) (vs : List V), RvA K hd F vs ds → RvA K hd F' vs ds
  | [], _, h => by cases h; exact .nil
  | d :: ds, _, h => by
    cases h with
    | cons a b => exact .cons (Rv.same s d _ a) (RvA.same s ds _ b)
end
theorem Rv.mono {v : V} {d : D} (h : Rv K hd F v d) (s : Same F F') : Rv K hd F' v d := Rv.same s d v h
theorem RvA.mono {v : List V} {d : List D} (h : RvA K hd F v d) (s : Same F F') : RvA K hd F' v d := RvA.same s d v h
theorem RvA.len : ∀ {ds : List D} {vs : List V}, RvA K hd F vs ds → vs.length = ds.length
  | [], _, h => by cases h; rfl
  | d :: ds, _, h => by
    cases h with
    | cons a b => simp [RvA.len b]
theorem RvA.get : ∀ {ds : List D} {vs : List V} {i : Nat} {v : V}, RvA K hd F vs ds → vs[i]? = some v → ∃ d, ds[i]? = some d ∧ Rv K hd F v d
  | [], _, i, v, h, e => by cases h; simp at e
  | d :: ds, _, 0, v, h, e => by
    cases h with
    | cons a b =>
      simp at e
      subst e
      exact ⟨d, rfl, a⟩
  | d :: ds, _, i + 1, v, h, e => by
    cases h with
    | cons a b =>
      obtain ⟨d', h1, h2⟩ := RvA.get (i := i) (v := v) b (by simpa using e)
      exact ⟨d', by simpa using h1, h2⟩
theorem RvA.get' : ∀ {ds : List D} {vs : List V} {i : Nat} {d : D}, RvA K hd F vs ds → ds[i]? = some d → ∃ v, vs[i]? = some v ∧ Rv K hd F v d
  | [], _, i, v, h, e => by simp at e
  | d :: ds, _, 0, v, h, e => by
    cases h with
    | cons a b =>
      simp at e
      subst e
      exact ⟨_, rfl, a⟩
  | d :: ds, _, i + 1, v, h, e => by
    cases h with
    | cons a b =>
      obtain ⟨d', h1, h2⟩ := RvA.get' (i := i) (d := v) b (by simpa using e)
      exact ⟨d', by simpa using h1, h2⟩
theorem RvA.app : ∀ {ds es : List D} {vs ws : List V}, RvA K hd F vs ds → RvA K hd F ws es → RvA K hd F (vs ++ ws) (ds ++ es)
  | [], _, _, _, h, g => by cases h; exact g
  | d :: ds, _, _, _, h, g => by
    cases h with
    | cons a b => exact .cons a (RvA.app b g)
theorem RvA.take : ∀ {ds : List D} {vs : List V} (n : Nat), RvA K hd F vs ds → RvA K hd F (vs.take n) (ds.take n)
  | _, _, 0, _ => by simpa using .nil
  | [], _, n + 1, h => by cases h; exact .nil
  | d :: ds, _, n + 1, h => by
    cases h with
    | cons a b => exact .cons a (RvA.take n b)
theorem RvA.drop : ∀ {ds : List D} {vs : List V} (n : Nat), RvA K hd F vs ds → RvA K hd F (vs.drop n) (ds.drop n)
  | _, _, 0, h => h
  | [], _, n + 1, h => by cases h; exact .nil
  | d :: ds, _, n + 1, h => by
    cases h with
    | cons a b => exact RvA.drop n b
theorem RvA.set {v : V} {d : D} (r : Rv K hd F v d) : ∀ {ds : List D} {vs : List V} (n : Nat), RvA K hd F vs ds → RvA K hd F (vs.set n v) (ds.set n d)
  | [], _, _, h => by cases h; exact .nil
  | _ :: _, _, 0, h => by
    cases h with
    | cons a b => exact .cons r b
  | _ :: _, _, n + 1, h => by
    cases h with
    | cons a b => exact .cons a (RvA.set r n b)
theorem RvA.erase : ∀ {ds : List D} {vs : List V} (n : Nat), RvA K hd F vs ds → RvA K hd F (vs.eraseIdx n) (ds.eraseIdx n)
  | [], _, _, h => by cases h; exact .nil
  | _ :: _, _, 0, h => by
    cases h with
    | cons a b => exact b
  | _ :: _, _, n + 1, h => by
    cases h with
    | cons a b => exact .cons a (RvA.erase n b)
theorem RvA.ints : ∀ {ns : List Int} {vs : List V}, RvA K hd F vs (ns.map D.int) → vs = ns.map V.int
  | [], _, h => by cases h; rfl
  | n :: ns, _, h => by
    cases h with
    | cons a b =>
      cases a
      rw [RvA.ints b]
      rfl
theorem RvA.ofInts : ∀ (ns : List Int), RvA K hd F (ns.map V.int) (ns.map D.int)
  | [] => .nil
  | n :: ns => .cons (.int n) (RvA.ofInts ns)
end
/-! ## no list within -/
mutual
def noL : D → Bool
  | .lst _ => false
  | .dct _ _ => false
  | .tup ds => noLA ds
  | .obj _ _ ds => noLA ds
  | .tpx ds => noLA ds
  | _ => true
def noLA : List D → Bool
  | [] => true
  | d :: ds => noL d && noLA ds
end
/-! ## what a name holds; what an expression gives -/
inductive OV where
  | dat (d : D)
  | own (ds : List D)
  | dic (ks : List Key) (ds : List D)
abbrev En := List (Option OV)
def OV.isOwn : OV → Bool
  | .dat _ => false
  | _ => true
def OV.frz : OV → D
  | .dat d => d
  | .own ds => .lst ds
  | .dic ks ds => .dct ks ds
inductive R where
  | dat (d : D)
  | var (i : Nat)
  | new (ds : List D)
def vl (ρ : En) : R → D
  | .dat d => d
  | .new ds => .lst ds
  | .var i => match ρ[i]? with
    | some (some o) => o.frz
    | _ => .non
def R.isVar : R → Bool
  | .var _ => true
  | _ => false
/-- the entry of a def: the module's facts, the hand, the frozen heap, the heap -/
structure Bs where
  K : PySem.W.Frag
  md : Option (Addr × Addr)
  F0 : Hp
  H0 : Hp
  a0 : ∀ p, md = some p → H0 p.2 ≠ none
abbrev Bs.hd (B : Bs) : Option Addr := B.md.map (·.1)
def RvO (B : Bs) (F H : Hp) (v : V) : OV → Prop
  | .dat d => Rv B.K B.hd F v d
  | .own ds => ∃ p vs, v = .ref p ∧ H p = some (.lst vs) ∧ RvA B.K B.hd F vs ds ∧ F p = none ∧ B.H0 p = none
  | .dic ks ds => ∃ p kv, v = .ref p ∧ H p = some (.dK kv) ∧ kv.map (·.1) = ks ∧ RvA B.K B.hd F (kv.map (·.2)) ds ∧ F p = none ∧ B.H0 p = none
structure Rel (B : Bs) (F : Hp) (ρ : En) (σ : L2.St) (H : Hp) : Prop where
  len : ρ.length = σ.length
  sub : Same F H
  fro : Same B.F0 F
  new : ∀ b, F b ≠ none → B.F0 b ≠ none ∨ B.H0 b = none
  kept : ∀ b o, B.H0 b = some o → (∀ p, B.md = some p → b ≠ p.1) → H b = some o
  hnd : ∀ p, B.md = some p → Hnd H p.1 p.2 ∧ F p.1 = none ∧ B.H0 p.1 ≠ none
  var : ∀ (i : Nat) (o : OV), ρ[i]? = some (some o) → ∃ v, σ[i]? = some (some v) ∧ RvO B F H v o
  ap : ∀ (i j : Nat) (o o' : OV) (v : V), ρ[i]? = some (some o) → ρ[j]? = some (some o') → o.isOwn = true → o'.isOwn = true → σ[i]? = some (some v) → σ[j]? = some (some v) → i = j
/-- a new list that no name holds yet -/
def NewL (B : Bs) (F : Hp) (ρ : En) (σ : L2.St) (H : Hp) (ds : List D) (v : V) : Prop :=
  ∃ p vs, v = .ref p ∧ H p = some (.lst vs) ∧ RvA B.K B.hd F vs ds ∧ F p = none ∧ B.H0 p = none ∧ ∀ (i : Nat) (o : OV), ρ[i]? = some (some o) → o.isOwn = true → σ[i]? ≠ some (some (V.ref p))
def RvR (B : Bs) (F : Hp) (ρ : En) (σ : L2.St) (H : Hp) (v : V) : R → Prop
  | .dat d => Rv B.K B.hd F v d
  | .var i => σ[i]? = some (some v) ∧ ∃ o, ρ[i]? = some (some o)
  | .new ds => NewL B F ρ σ H ds v
section
variable {B : Bs} {F F' H H' : Hp} {ρ ρ' : En} {σ : L2.St}
theorem RvO.own {v : V} {o : OV} (h : RvO B F H v o) (w : o.isOwn = true) : ∃ p u, v = .ref p ∧ H p = some u ∧ F p = none ∧ B.H0 p = none ∧ (∀ xs, u ≠ .tup xs) ∧ (∀ a b, u ≠ .frz a b) ∧ (∀ a b c, u ≠ .ins a b c) := by
  cases o with
  | dat d => cases w
  | own ds =>
    obtain ⟨p, vs, e, h1, _, h2, h3⟩ := h
    exact ⟨p, _, e, h1, h2, h3, fun _ z => (by cases z), fun _ _ z => (by cases z), fun _ _ _ z => (by cases z)⟩
  | dic ks ds =>
    obtain ⟨p, vs, e, h1, _, _, h2, h3⟩ := h
    exact ⟨p, _, e, h1, h2, h3, fun _ z => (by cases z), fun _ _ z => (by cases z), fun _ _ _ z => (by cases z)⟩
/-- a larger frozen heap and a grown heap -/
theorem RvO.mono {v : V} {o : OV} (h : RvO B F H v o) (s : Same F F') (k : ∀ p u, v = .ref p → o.isOwn = true → H p = some u → H' p = some u ∧ F' p = none) : RvO B F' H' v o := by
  cases o with
  | dat d => exact Rv.mono h s
  | own ds =>
    obtain ⟨p, vs, e, h1, h2, h3, h4⟩ := h
    obtain ⟨k1, k2⟩ := k p _ e rfl h1
    exact ⟨p, vs, e, k1, h2.mono s, k2, h4⟩
  | dic ks ds =>
    obtain ⟨p, vs, e, h1, h1', h2, h3, h4⟩ := h
    obtain ⟨k1, k2⟩ := k p _ e rfl h1
    exact ⟨p, vs, e, k1, h1', h2.mono s, k2, h4⟩
theorem Rel.own (r : Rel B F ρ σ H) {i : Nat} {o : OV} (e : ρ[i]? = some (some o)) (w : o.isOwn = true) : ∃ p u, σ[i]? = some (some (.ref p)) ∧ H p = some u ∧ F p = none ∧ B.H0 p = none ∧ (∀ xs, u ≠ .tup xs) ∧ (∀ a b, u ≠ .frz a b) ∧ (∀ a b c, u ≠ .ins a b c) := by
  obtain ⟨v, e1, h⟩ := r.var i o e
  obtain ⟨p, u, rfl, q⟩ := h.own w
  exact ⟨p, u, e1, q⟩
/-- the heap grows by a new object that is frozen (or not) -/
theorem Rel.grow (r : Rel B F ρ σ H) (s1 : Same F F') (s2 : Same H H') (s3 : Same F' H') (nw : ∀ b, F' b ≠ none → F b ≠ none ∨ H b = none) : Rel B F' ρ σ H' := by
  have off : ∀ p u, H p = some u → F p = none → F' p = none := fun p u e n => by
    cases q : F' p with
    | none => rfl
    | some o =>
      rcases nw p (by rw [q]; simp) with z | z
      · exact absurd n z
      · rw [e] at z; cases z
  refine ⟨r.len, s3, r.fro.trans s1, fun b hb => ?_, fun b o e n => s2 _ _ (r.kept b o e n), fun p e => ?_, fun i o e => ?_, r.ap⟩
  · rcases nw b hb with z | z
    · exact r.new b z
    · refine .inr ?_
      cases q : B.H0 b with
      | none => rfl
      | some o =>
        by_cases hh : ∀ p, B.md = some p → b ≠ p.1
        · rw [r.kept b o q hh] at z; cases z
        · have : ∃ p, B.md = some p ∧ b = p.1 := Classical.byContradiction fun w => hh fun p e1 e2 => w ⟨p, e1, e2⟩
          obtain ⟨p, e1, e2⟩ := this
          obtain ⟨h1, _, _⟩ := r.hnd p e1
          obtain ⟨u, hu⟩ := h1.there
          rw [← e2, z] at hu; cases hu
  · obtain ⟨h1, h2, h3⟩ := r.hnd p e
    obtain ⟨u, hu⟩ := h1.there
    exact ⟨h1.same s2, off _ _ hu h2, h3⟩
  · obtain ⟨v, e1, h⟩ := r.var i o e
    refine ⟨v, e1, h.mono s1 fun p u ep w hp => ?_⟩
    subst ep
    obtain ⟨p', u', e', _, n, _⟩ := h.own w
    cases e'
    exact ⟨s2 _ _ hp, off _ _ hp n⟩
/-- a new frozen object -/
theorem Rel.newF (r : Rel B F ρ σ H) {p : Addr} {u : HO} (n : H p = none) : Rel B (upd F p u) ρ σ (upd H p u) ∧ Same F (upd F p u) := by
  have nF : F p = none := by
    cases q : F p with
    | none => rfl
    | some o => rw [r.sub _ _ q] at n; cases n
  refine ⟨r.grow (same_new nF) (same_new n) (fun b o e => ?_) fun b hb => ?_, same_new nF⟩
  · by_cases hb : b = p
    · subst hb
      rw [upd_same] at e ⊢
      exact e
    · rw [upd_ne hb] at e ⊢
      exact r.sub _ _ e
  · by_cases e : b = p
    · subst e
      exact .inr n
    · rw [upd_ne e] at hb
      exact .inl hb
/-- a new object that is not frozen -/
theorem Rel.newO (r : Rel B F ρ σ H) {p : Addr} {u : HO} (n : H p = none) : Rel B F ρ σ (upd H p u) :=
  r.grow (Same.refl _) (same_new n) (fun b o e => same_new n _ _ (r.sub _ _ e)) fun b hb => .inl hb
theorem Rel.noF (r : Rel B F ρ σ H) {p : Addr} (n : H p = none) : F p = none := by
  cases q : F p with
  | none => rfl
  | some o => rw [r.sub _ _ q] at n; cases n
theorem Rel.no0 (r : Rel B F ρ σ H) {b : Addr} (z : H b = none) : B.H0 b = none := by
  cases q : B.H0 b with
  | none => rfl
  | some o =>
    by_cases hh : ∀ p, B.md = some p → b ≠ p.1
    · rw [r.kept b o q hh] at z; cases z
    · have : ∃ p, B.md = some p ∧ b = p.1 := Classical.byContradiction fun w => hh fun p e1 e2 => w ⟨p, e1, e2⟩
      obtain ⟨p, e1, e2⟩ := this
      obtain ⟨h1, _, _⟩ := r.hnd p e1
      obtain ⟨u, hu⟩ := h1.there
      rw [← e2, z] at hu; cases hu
/-- a new list -/
theorem Rel.newL (r : Rel B F ρ σ H) {p : Addr} {vs : List V} {ds : List D} (n : H p = none) (a : RvA B.K B.hd F vs ds) : Rel B F ρ σ (upd H p (.lst vs)) ∧ NewL B F ρ σ (upd H p (.lst vs)) ds (.ref p) := by
  refine ⟨r.newO n, p, vs, rfl, upd_same, a, r.noF n, r.no0 n, fun i o e w z => ?_⟩
  obtain ⟨q, u, e1, h1, _⟩ := r.own e w
  rw [e1] at z
  cases z
  rw [h1] at n; cases n
/-- a new list is frozen -/
theorem Rel.frzL (r : Rel B F ρ σ H) {ds : List D} {v : V} (h : NewL B F ρ σ H ds v) : ∃ F', Same F F' ∧ Rel B F' ρ σ H ∧ Rv B.K B.hd F' v (.lst ds) := by
  obtain ⟨p, vs, rfl, e, a, n, n0, ne⟩ := h
  have s : Same F (upd F p (.lst vs)) := same_new n
  refine ⟨upd F p (.lst vs), s, ⟨r.len, fun b o q => ?_, r.fro.trans s, fun b hb => ?_, r.kept, fun q z => ?_, fun i o z => ?_, r.ap⟩, .lst upd_same (a.mono s)⟩
  · by_cases hb : b = p
    · subst hb
      rw [upd_same] at q
      cases q
      exact e
    · rw [upd_ne hb] at q
      exact r.sub _ _ q
  · by_cases hb' : b = p
    · subst hb'
      exact .inr n0
    · rw [upd_ne hb'] at hb
      exact r.new b hb
  · obtain ⟨h1, h2, h3⟩ := r.hnd q z
    refine ⟨h1, ?_, h3⟩
    rw [upd_ne (fun w => h3 (by rw [w]; exact n0))]
    exact h2
  · obtain ⟨v, e1, h⟩ := r.var i o z
    refine ⟨v, e1, h.mono s fun q u ev w hq => ⟨hq, ?_⟩⟩
    subst ev
    obtain ⟨p', u', e', _, n', _⟩ := h.own w
    cases e'
    rw [upd_ne (fun w2 => ne i o z w (by rw [e1, w2]))]
    exact n'
end
/-! ## all names' own lists, lent -/
def Own (ρ : En) (σ : L2.St) (b : Addr) : Prop := ∃ (i : Nat) (o : OV), ρ[i]? = some (some o) ∧ o.isOwn = true ∧ σ[i]? = some (some (V.ref b))
open Classical in
noncomputable def lend (F : Hp) (ρ : En) (σ : L2.St) (H : Hp) : Hp := fun b => if Own ρ σ b then H b else F b
open Classical in
noncomputable def unlend (F : Hp) (ρ : En) (σ : L2.St) : Hp := fun b => if Own ρ σ b then none else F b
def lent (ρ : En) : En := ρ.map fun o => o.map fun o => OV.dat o.frz
section
variable {B : Bs} {F F' H H' : Hp} {ρ ρ' : En} {σ : L2.St}
theorem lend_of {b : Addr} (h : Own ρ σ b) : lend F ρ σ H b = H b := by unfold lend; rw [if_pos h]
theorem lend_no {b : Addr} (h : ¬ Own ρ σ b) : lend F ρ σ H b = F b := by unfold lend; rw [if_neg h]
theorem unlend_of {b : Addr} (h : Own ρ σ b) : unlend F ρ σ b = none := by unfold unlend; rw [if_pos h]
theorem unlend_no {b : Addr} (h : ¬ Own ρ σ b) : unlend F ρ σ b = F b := by unfold unlend; rw [if_neg h]
theorem Rel.ownF (r : Rel B F ρ σ H) {b : Addr} (h : Own ρ σ b) : F b = none ∧ B.H0 b = none ∧ ∃ u, H b = some u ∧ (∀ xs, u ≠ .tup xs) ∧ (∀ a b, u ≠ .frz a b) ∧ (∀ a b c, u ≠ .ins a b c) := by
  obtain ⟨i, o, e, w, es⟩ := h
  obtain ⟨p, u, e1, h1, h2, h3, h4⟩ := r.own e w
  rw [es] at e1
  cases e1
  exact ⟨h2, h3, u, h1, h4⟩
theorem Rel.lend_same (r : Rel B F ρ σ H) : Same F (lend F ρ σ H) := fun b o e => by
  by_cases h : Own ρ σ b
  · rw [(r.ownF h).1] at e; cases e
  · rw [lend_no h]; exact e
theorem lent_get {i : Nat} {o : OV} (h : (lent ρ)[i]? = some (some o)) : ∃ o', ρ[i]? = some (some o') ∧ o = .dat o'.frz := by
  unfold lent at h
  rw [List.getElem?_map] at h
  cases e : ρ[i]? with
  | none => rw [e] at h; cases h
  | some q =>
    rw [e] at h
    cases q with
    | none => cases h
    | some o' =>
      cases h
      exact ⟨o', rfl, rfl⟩
theorem Rel.frzO (r : Rel B F ρ σ H) {i : Nat} {o : OV} {v : V} (e : ρ[i]? = some (some o)) (es : σ[i]? = some (some v)) : Rv B.K B.hd (lend F ρ σ H) v o.frz := by
  obtain ⟨v', e1, h⟩ := r.var i o e
  rw [es] at e1
  cases e1
  have s := r.lend_same
  cases o with
  | dat d => exact Rv.mono h s
  | own ds =>
    obtain ⟨p, vs, rfl, h1, h2, _⟩ := h
    refine .lst (?_ : Z.lend F ρ σ H p = _) (h2.mono s)
    rw [lend_of ⟨i, _, e, rfl, es⟩]
    exact h1
  | dic ks ds =>
    obtain ⟨p, kv, rfl, h1, h1', h2, _⟩ := h
    refine .dct (?_ : Z.lend F ρ σ H p = _) h1' (h2.mono s)
    rw [lend_of ⟨i, _, e, rfl, es⟩]
    exact h1
theorem Rel.lend (r : Rel B F ρ σ H) : Rel B (lend F ρ σ H) (lent ρ) σ H := by
  refine ⟨by unfold lent; rw [List.length_map]; exact r.len, fun b o e => ?_, r.fro.trans r.lend_same, fun b hb => ?_, r.kept, fun p e => ?_, fun i o e => ?_, fun i j o o' v e1 e2 w => ?_⟩
  · by_cases h : Own ρ σ b
    · rw [lend_of h] at e; exact e
    · rw [lend_no h] at e; exact r.sub _ _ e
  · by_cases h : Own ρ σ b
    · exact .inr (r.ownF h).2.1
    · rw [lend_no h] at hb; exact r.new b hb
  · obtain ⟨h1, h2, h3⟩ := r.hnd p e
    refine ⟨h1, ?_, h3⟩
    rw [lend_no fun h => h3 (r.ownF h).2.1]
    exact h2
  · obtain ⟨o', e', rfl⟩ := lent_get e
    obtain ⟨v, es, _⟩ := r.var i o' e'
    exact ⟨v, es, r.frzO e' es⟩
  · obtain ⟨o1, _, rfl⟩ := lent_get e1
    cases w
theorem Rel.val (r : Rel B F ρ σ H) {x : R} {v : V} (h : RvR B F ρ σ H v x) (nn : ∀ ds, x ≠ .new ds) : Rv B.K B.hd (Z.lend F ρ σ H) v (vl ρ x) := by
  cases x with
  | dat d => exact Rv.mono h r.lend_same
  | new ds => exact absurd rfl (nn ds)
  | var i =>
    obtain ⟨es, o, e⟩ := h
    have e2 : vl ρ (.var i) = o.frz := by
      show (match ρ[i]? with | some (some o) => o.frz | _ => D.non) = _
      rw [e]
    rw [e2]
    exact r.frzO e es
mutual
theorem Rv.less (h : ∀ b u, F b = some u → F' b = some u ∨ ((∀ xs, u ≠ .tup xs) ∧ (∀ a b, u ≠ .frz a b) ∧ (∀ a b c, u ≠ .ins a b c))) : ∀ (d : D) (v : V), noL d = true → Rv B.K B.hd F v d → Rv B.K B.hd F' v d
  | .non, _, _, q => by cases q; exact .non
  | .bl b, _, _, q => by cases q; exact .bl b
  | .int i, _, _, q => by cases q; exact .int i
  | .str x, _, _, q => by cases q; exact .str x
  | .lst ds, _, n, _ => by simp [noL] at n
  | .dct _ ds, _, n, _ => by simp [noL] at n
  | .tup ds, _, n, q => by
    cases q with
    | tup a b =>
      refine .tup ?_ (RvA.less h ds _ (by simpa [noL] using n) b)
      rcases a with (a | ⟨o, a⟩) | a
      · rcases h _ _ a with z | z
        · exact .inl (.inl z)
        · exact absurd rfl (z.1 _)
      · rcases h _ _ a with z | z
        · exact .inl (.inr ⟨o, z⟩)
        · exact absurd rfl (z.2.1 _ _)
      · exact .inr a
  | .obj C ns ds, _, n, q => by
    cases q with
    | obj a e b =>
      rcases h _ _ a with z | z
      · exact .obj z e (RvA.less h ds _ (by simpa [noL] using n) b)
      · exact absurd rfl (z.2.2 _ _ _)
  | .cls C, _, _, q => by cases q; exact .cls _
  | .ty n, _, _, q => by cases q; exact .ty _
  | .tpx ds, _, n, q => by
    cases q with
    | tpx a e b =>
      rcases h _ _ a with z | z
      · exact .tpx z e (RvA.less h ds _ (by simpa [noL] using n) b)
      · exact absurd rfl (z.2.1 _ _)
  | .hnd, _, _, q => by
    cases q with
    | hnd e => exact .hnd e
theorem RvA.less (h : ∀ b u, F b = some u → F' b = some u ∨ ((∀ xs, u ≠ .tup xs) ∧ (∀ a b, u ≠ .frz a b) ∧ (∀ a b c, u ≠ .ins a b c))) : ∀ (ds : List D) (vs : List V), noLA ds = true → RvA B.K B.hd F vs ds → RvA B.K B.hd F' vs ds
  | [], _, _, q => by cases q; exact .nil
  | d :: ds, _, n, q => by
    simp [noLA] at n
    cases q with
    | cons a b => exact .cons (Rv.less h d _ n.1 a) (RvA.less h ds _ n.2 b)
end
/-- the own lists are taken back -/
theorem Rel.back (r : Rel B F ρ σ H) (s : Same (Z.lend F ρ σ H) F') (r' : Rel B F' (lent ρ) σ H') : Rel B (unlend F' ρ σ) ρ σ H' ∧ Same F (unlend F' ρ σ) ∧
    (∀ b u, F' b = some u → unlend F' ρ σ b = some u ∨ ((∀ xs, u ≠ .tup xs) ∧ (∀ a b, u ≠ .frz a b) ∧ (∀ a b c, u ≠ .ins a b c))) := by
  have hk : ∀ b u, Own ρ σ b → H b = some u → F' b = some u ∧ H' b = some u := fun b u w e => by
    have := s b u (by rw [lend_of w]; exact e)
    exact ⟨this, r'.sub _ _ this⟩
  have sF : Same F (unlend F' ρ σ) := fun b o e => by
    have n : ¬ Own ρ σ b := fun w => by rw [(r.ownF w).1] at e; cases e
    rw [unlend_no n]
    exact s b o (by rw [lend_no n]; exact e)
  refine ⟨⟨r.len, fun b o e => ?_, r.fro.trans sF, fun b hb => ?_, r'.kept, fun p e => ?_, fun i o e => ?_, r.ap⟩, sF, fun b u e => ?_⟩
  · by_cases w : Own ρ σ b
    · rw [unlend_of w] at e; cases e
    · rw [unlend_no w] at e; exact r'.sub _ _ e
  · by_cases w : Own ρ σ b
    · rw [unlend_of w] at hb; exact absurd rfl hb
    · rw [unlend_no w] at hb; exact r'.new b hb
  · obtain ⟨h1, h2, h3⟩ := r'.hnd p e
    refine ⟨h1, ?_, h3⟩
    rw [unlend_no fun w => h3 (r.ownF w).2.1]
    exact h2
  · obtain ⟨v, es, h⟩ := r.var i o e
    refine ⟨v, es, h.mono sF fun p u ev w hp => ?_⟩
    subst ev
    have ow : Own ρ σ p := ⟨i, o, e, w, es⟩
    exact ⟨(hk p u ow hp).2, unlend_of ow⟩
  · by_cases w : Own ρ σ b
    · obtain ⟨_, _, u', e', q⟩ := r.ownF w
      rw [(hk b u' w e').1] at e
      cases e
      exact .inr q
    · exact .inl (by rw [unlend_no w]; exact e)
theorem Rel.backNew (r : Rel B F ρ σ H) (s : Same (Z.lend F ρ σ H) F') (r' : Rel B F' (lent ρ) σ H') {ds : List D} {v : V} (h : NewL B F' (lent ρ) σ H' ds v) (n : noLA ds = true) : NewL B (unlend F' ρ σ) ρ σ H' ds v := by
  obtain ⟨p, vs, rfl, e, a, nF, n0, _⟩ := h
  obtain ⟨_, _, h3⟩ := r.back s r'
  refine ⟨p, vs, rfl, e, RvA.less h3 ds vs n a, ?_, n0, fun i o e1 w z => ?_⟩
  · by_cases w : Own ρ σ p
    · exact unlend_of w
    · rw [unlend_no w]; exact nF
  · have ow : Own ρ σ p := ⟨i, o, e1, w, z⟩
    obtain ⟨_, _, u', e', _⟩ := r.ownF ow
    have := s p u' (by rw [lend_of ow]; exact e')
    rw [nF] at this; cases this
end
end Z

set_option Elab.async false
set_option linter.all false
set_option maxRecDepth 100000
namespace Z
open PySem L2
abbrev DT := En → (R → En → Prop) → Prop
def Kp (ρ ρ' : En) : Prop := ∀ (i : Nat) (o : OV), ρ[i]? = some (some o) → ∃ o', ρ'[i]? = some (some o')
theorem Kp.refl {ρ : En} : Kp ρ ρ := fun _ o e => ⟨o, e⟩
theorem Kp.trans {a b c : En} (h : Kp a b) (g : Kp b c) : Kp a c := fun i o e => let ⟨_, e'⟩ := h i o e; g i _ e'
def Sim (B : Bs) (tE : TE) (t : DT) : Prop := ∀ (F : Hp) (ρ : En) (σ : L2.St) (H : Hp) (P : R → En → Prop) (Q : VK), Rel B F ρ σ H → t ρ P →
    (∀ r v F' ρ' H', Rel B F' ρ' σ H' → Same F F' → Kp ρ ρ' → RvR B F' ρ' σ H' v r → P r ρ' → Q v H') → tE σ H Q
structure DE (X : Cx) (B : Bs) (e : Expr) (tE : TE) (t : DT) : Prop where
  pe : PE X e tE
  sim : Sim B tE t
/-- a new list is frozen where it is no more than a part -/
def fz : R → R
  | .new ds => .dat (.lst ds)
  | r => r
theorem vl_fz {ρ : En} {r : R} : vl ρ (fz r) = vl ρ r := by cases r <;> rfl
theorem var_fz {r : R} : (fz r).isVar = r.isVar := by cases r <;> rfl
section
variable {X : Cx} {B : Bs} {F F' H H' : Hp} {ρ ρ' : En} {σ : L2.St} {v : V} {r : R}
theorem RvR.mono (h : RvR B F ρ σ H v (fz r)) (s : Same F F') (k : Kp ρ ρ') : RvR B F' ρ' σ H' v (fz r) := by
  cases r with
  | dat d => exact Rv.mono h s
  | new ds => exact Rv.mono h s
  | var i =>
    obtain ⟨e, o, w⟩ := h
    exact ⟨e, k i o w⟩
theorem Rel.fz (l : Rel B F ρ σ H) (h : RvR B F ρ σ H v r) : ∃ F', Same F F' ∧ Rel B F' ρ σ H ∧ RvR B F' ρ σ H v (Z.fz r) := by
  cases r with
  | dat d => exact ⟨F, Same.refl _, l, h⟩
  | var i => exact ⟨F, Same.refl _, l, h⟩
  | new ds =>
    obtain ⟨F', s, l', h'⟩ := l.frzL h
    exact ⟨F', s, l', h'⟩
theorem Sim.frz {tE : TE} {t : DT} (h : Sim B tE t) : ∀ (F : Hp) (ρ : En) (σ : L2.St) (H : Hp) (P : R → En → Prop) (Q : VK), Rel B F ρ σ H → t ρ P →
    (∀ r v F' ρ' H', Rel B F' ρ' σ H' → Same F F' → Kp ρ ρ' → RvR B F' ρ' σ H' v (Z.fz r) → P r ρ' → Q v H') → tE σ H Q := by
  refine fun F ρ σ H P Q l w k => h F ρ σ H P Q l w fun r v F' ρ' H' l' s kp rv p => ?_
  obtain ⟨F2, s2, l2, rv2⟩ := l'.fz rv
  exact k r v F2 ρ' H' l2 (s.trans s2) kp rv2 p
end
/-! ## pure operations -/
inductive AllR (B : Bs) (F : Hp) (ρ : En) (σ : L2.St) (H : Hp) : List V → List R → Prop
  | nil : AllR B F ρ σ H [] []
  | cons {v : V} {vs : List V} {r : R} {rs : List R} : RvR B F ρ σ H v (fz r) → AllR B F ρ σ H vs rs → AllR B F ρ σ H (v :: vs) (r :: rs)
def noR : R → Bool
  | .dat d => noL d
  | .new ds => noLA ds
  | .var _ => false
def bOk (rs : List R) (r : R) : Prop := rs.any R.isVar = true → noR r = true
/-- all that a result may bring -/
def Kt (B : Bs) (F : Hp) (ρ : En) (σ : L2.St) (P : R → Prop) (Q : VK) : Prop := ∀ r v F' H', Rel B F' ρ σ H' → Same F F' → RvR B F' ρ σ H' v r → P r → Q v H'
section
variable {X : Cx} {B : Bs} {F F' H H' : Hp} {ρ ρ' : En} {σ : L2.St} {v : V} {r : R}
theorem AllR.mono (s : Same F F') (k : Kp ρ ρ') : ∀ {rs : List R} {vs : List V}, AllR B F ρ σ H vs rs → AllR B F' ρ' σ H' vs rs
  | [], _, h => by cases h; exact .nil
  | r :: rs, _, h => by
    cases h with
    | cons a b => exact .cons (RvR.mono a s k) (AllR.mono s k b)
theorem AllR.lent (l : Rel B F ρ σ H) : ∀ {rs : List R} {vs : List V}, AllR B F ρ σ H vs rs → RvA B.K B.hd (Z.lend F ρ σ H) vs (rs.map (vl ρ))
  | [], _, h => by cases h; exact .nil
  | r :: rs, _, h => by
    cases h with
    | cons a b =>
      have q := l.val a (by intro ds; cases r <;> (intro z; cases z))
      rw [vl_fz] at q
      exact .cons q (AllR.lent l b)
theorem AllR.plain (l : Rel B F ρ σ H) : ∀ {rs : List R} {vs : List V}, rs.any R.isVar = false → AllR B F ρ σ H vs rs → RvA B.K B.hd F vs (rs.map (vl ρ))
  | [], _, _, h => by cases h; exact .nil
  | r :: rs, _, n, h => by
    cases h with
    | cons a b =>
      rw [List.any_cons, Bool.or_eq_false_iff] at n
      refine .cons ?_ (AllR.plain l n.2 b)
      cases r with
      | dat d => exact a
      | new ds => exact a
      | var i => exact absurd n.1 (by show ¬ (true = false); decide)
theorem lendRun {rs : List R} {vs : List V} (l : Rel B F ρ σ H) (hv : AllR B F ρ σ H vs rs) (W : (R → Prop) → Prop) (G : VK → Prop) {P : R → Prop} {Q : VK}
    (core : ∀ F1 ρ1, Rel B F1 ρ1 σ H → Same F F1 → RvA B.K B.hd F1 vs (rs.map (vl ρ)) → ∀ (P' : R → Prop) (Q' : VK), W P' → Kt B F1 ρ1 σ P' Q' → G Q')
    (w : W fun r => bOk rs r ∧ P r) (k : Kt B F ρ σ P Q) : G Q := by
  by_cases hb : rs.any R.isVar = true
  · refine core _ _ l.lend l.lend_same (hv.lent l) _ Q w fun r v F' H' l' s rv ⟨bo, p⟩ => ?_
    obtain ⟨l3, s3, less⟩ := l.back s l'
    refine k r v _ H' l3 s3 ?_ p
    have n := bo hb
    cases r with
    | dat d => exact Rv.less less d v n rv
    | var i => cases n
    | new ds => exact l.backNew s l' rv n
  · exact core F ρ l (Same.refl _) (hv.plain l (by simpa using hb)) _ Q w fun r v F' H' l' s rv ⟨_, p⟩ => k r v F' H' l' s rv p
end
def OpD (B : Bs) (r : R2) (d : D → D → (R → Prop) → Prop) : Prop := ∀ (F : Hp) (ρ : En) (σ : L2.St) (H : Hp) (x y : V) (dx dy : D) (P : R → Prop) (Q : VK), Rel B F ρ σ H → Rv B.K B.hd F x dx → Rv B.K B.hd F y dy → d dx dy P → Kt B F ρ σ P Q → r x y H Q
def UnD (B : Bs) (r : V → Hp → VK → Prop) (d : D → (R → Prop) → Prop) : Prop := ∀ (F : Hp) (ρ : En) (σ : L2.St) (H : Hp) (x : V) (dx : D) (P : R → Prop) (Q : VK), Rel B F ρ σ H → Rv B.K B.hd F x dx → d dx P → Kt B F ρ σ P Q → r x H Q
/-- by a list of arguments -/
def CaD (B : Bs) (r : List V → Hp → VK → Prop) (d : List D → (R → Prop) → Prop) : Prop := ∀ (F : Hp) (ρ : En) (σ : L2.St) (H : Hp) (xs : List V) (ds : List D) (P : R → Prop) (Q : VK), Rel B F ρ σ H → RvA B.K B.hd F xs ds → d ds P → Kt B F ρ σ P Q → r xs H Q
def dBin (d : D → D → (R → Prop) → Prop) (ta tb : DT) : DT := fun ρ P => ta ρ fun r1 ρ1 => tb ρ1 fun r2 ρ2 => d (vl ρ2 r1) (vl ρ2 r2) fun r => bOk [r1, r2] r ∧ P r ρ2
def dUn (d : D → (R → Prop) → Prop) (ta : DT) : DT := fun ρ P => ta ρ fun r1 ρ1 => d (vl ρ1 r1) fun r => bOk [r1] r ∧ P r ρ1
section
variable {X : Cx} {B : Bs} {a b : Expr} {tA tB : TE} {ta tb : DT} {pos : Pos}
theorem opd_run {r : R2} {d : D → D → (R → Prop) → Prop} (hd : OpD B r d) {F H : Hp} {ρ : En} {σ : L2.St} {x y : V} {r1 r2 : R} {P : R → Prop} {Q : VK} (l : Rel B F ρ σ H) (h1 : RvR B F ρ σ H x (fz r1)) (h2 : RvR B F ρ σ H y (fz r2))
    (w : d (vl ρ r1) (vl ρ r2) fun r => bOk [r1, r2] r ∧ P r) (k : Kt B F ρ σ P Q) : r x y H Q := by
  refine lendRun (rs := [r1, r2]) (vs := [x, y]) l (.cons h1 (.cons h2 .nil)) (fun P => d (vl ρ r1) (vl ρ r2) P) (fun Q => r x y H Q) (fun F1 ρ1 l1 _ a P' Q' w' k' => ?_) w k
  cases a with
  | cons a1 a2 =>
    cases a2 with
    | cons a2 _ => exact hd F1 ρ1 σ H x y _ _ P' Q' l1 a1 a2 w' k'
theorem und_run {r : V → Hp → VK → Prop} {d : D → (R → Prop) → Prop} (hd : UnD B r d) {F H : Hp} {ρ : En} {σ : L2.St} {x : V} {r1 : R} {P : R → Prop} {Q : VK} (l : Rel B F ρ σ H) (h1 : RvR B F ρ σ H x (fz r1))
    (w : d (vl ρ r1) fun r => bOk [r1] r ∧ P r) (k : Kt B F ρ σ P Q) : r x H Q := by
  refine lendRun (rs := [r1]) (vs := [x]) l (.cons h1 .nil) (fun P => d (vl ρ r1) P) (fun Q => r x H Q) (fun F1 ρ1 l1 _ a P' Q' w' k' => ?_) w k
  cases a with
  | cons a1 _ => exact hd F1 ρ1 σ H x _ P' Q' l1 a1 w' k'
/-- two parts, one after another -/
theorem two (ha : Sim B tA ta) (hb : Sim B tB tb) : ∀ (F : Hp) (ρ : En) (σ : L2.St) (H : Hp) (P : R → R → En → Prop) (G : V → V → Hp → Prop), Rel B F ρ σ H → (ta ρ fun r1 ρ1 => tb ρ1 fun r2 ρ2 => P r1 r2 ρ2) →
    (∀ r1 r2 x y F' ρ' H', Rel B F' ρ' σ H' → Same F F' → Kp ρ ρ' → RvR B F' ρ' σ H' x (fz r1) → RvR B F' ρ' σ H' y (fz r2) → P r1 r2 ρ' → G x y H') → tA σ H fun x H1 => tB σ H1 fun y H2 => G x y H2 := by
  refine fun F ρ σ H P G l w k => ha.frz F ρ σ H _ _ l w fun r1 x F1 ρ1 H1 l1 s1 k1 rv1 p1 => ?_
  refine hb.frz F1 ρ1 σ H1 _ _ l1 p1 fun r2 y F2 ρ2 H2 l2 s2 k2 rv2 p2 => ?_
  exact k r1 r2 x y F2 ρ2 H2 l2 (s1.trans s2) (k1.trans k2) (RvR.mono rv1 s2 k2) rv2 p2
theorem de_op {op : Operator} {r : R2} {d : D → D → (R → Prop) → Prop} (ho : OpR X (binaryOp op) r) (hd : OpD B r d) (ha : DE X B a tA ta) (hb : DE X B b tB tb) : DE X B (.BinOp a op b pos) (tOp r tA tB) (dBin d ta tb) := by
  have q := two ha.sim hb.sim
  refine ⟨pe_op ho ha.pe hb.pe, fun F ρ σ H P Q l w k => q F ρ σ H _ _ l w fun r1 r2 x y F' ρ' H' l' s kp h1 h2 p => ?_⟩
  exact opd_run hd l' h1 h2 p fun r v F2 H2 l2 s2 rv p => k r v F2 ρ' H2 l2 (s.trans s2) kp rv p
theorem de_cmp {op : CmpOp} {r : R2} {d : D → D → (R → Prop) → Prop} (ho : OpR X (compareOp op) r) (hd : OpD B r d) (ha : DE X B a tA ta) (hb : DE X B b tB tb) (hm : behindInMarks op b = false) : DE X B (.Compare a [op] [b] pos) (tOp r tA tB) (dBin d ta tb) := by
  have q := two ha.sim hb.sim
  refine ⟨pe_cmpR ho ha.pe hb.pe hm, fun F ρ σ H P Q l w k => q F ρ σ H _ _ l w fun r1 r2 x y F' ρ' H' l' s kp h1 h2 p => ?_⟩
  exact opd_run hd l' h1 h2 p fun r v F2 H2 l2 s2 rv p => k r v F2 ρ' H2 l2 (s.trans s2) kp rv p
theorem de_ix {r : R2} {d : D → D → (R → Prop) → Prop} (ho : IxR X r) (hd : OpD B r d) (ha : DE X B a tA ta) (hb : DE X B b tB tb) (hs : PlainIx b) : DE X B (.Subscript a b pos) (tOp r tA tB) (dBin d ta tb) := by
  have q := two ha.sim hb.sim
  refine ⟨pe_ix ho ha.pe hb.pe hs, fun F ρ σ H P Q l w k => q F ρ σ H _ _ l w fun r1 r2 x y F' ρ' H' l' s kp h1 h2 p => ?_⟩
  exact opd_run hd l' h1 h2 p fun r v F2 H2 l2 s2 rv p => k r v F2 ρ' H2 l2 (s.trans s2) kp rv p
theorem de_un {op : UnaryOp} {r : V → Hp → VK → Prop} {d : D → (R → Prop) → Prop} (ho : UnR X (unaryOp op) r) (hd : UnD B r d) (ha : DE X B a tA ta) : DE X B (.UnaryOp op a pos) (tUn r tA) (dUn d ta) := by
  refine ⟨pe_un ho ha.pe, fun F ρ σ H P Q l w k => ha.sim.frz F ρ σ H _ _ l w fun r1 x F' ρ' H' l' s kp h1 p => ?_⟩
  exact und_run hd l' h1 p fun r v F2 H2 l2 s2 rv p => k r v F2 ρ' H2 l2 (s.trans s2) kp rv p
/-! ### names and constants -/
def dVar (i : Nat) : DT := fun ρ P => match ρ[i]? with
  | some (some (.dat d)) => P (.dat d) ρ
  | some (some _) => P (.var i) ρ
  | _ => False
theorem de_var {i : Nat} {e : Expr} (h : PE X e (tVar i)) : DE X B e (tVar i) (dVar i) := by
  refine ⟨h, fun F ρ σ H P Q l w k => ?_⟩
  unfold dVar at w
  cases e1 : ρ[i]? with
  | none => rw [e1] at w; exact w.elim
  | some o =>
    rw [e1] at w
    cases o with
    | none => exact w.elim
    | some o =>
      obtain ⟨v, es, hv⟩ := l.var i o e1
      refine ⟨v, es, ?_⟩
      cases o with
      | dat d => exact k (.dat d) v F ρ H l (Same.refl _) Kp.refl hv w
      | own ds => exact k (.var i) v F ρ H l (Same.refl _) Kp.refl ⟨es, _, e1⟩ w
      | dic ks ds => exact k (.var i) v F ρ H l (Same.refl _) Kp.refl ⟨es, _, e1⟩ w
def dC (d : D) : DT := fun ρ P => P (.dat d) ρ
theorem de_cst {e : Expr} {v : V} {d : D} (h : PE X e (tC v)) (q : ∀ F, Rv B.K B.hd F v d) : DE X B e (tC v) (dC d) :=
  ⟨h, fun F ρ σ H P Q l w k => k (.dat d) v F ρ H l (Same.refl _) Kp.refl (q F) w⟩
theorem de_int {i : Int} {j p} : DE X B (.Constant (.int i) j p) (tC (.int i)) (dC (.int i)) := de_cst pe_int fun _ => .int i
theorem de_bl {b : Bool} {j p} : DE X B (.Constant (.bool b) j p) (tC (.bl b)) (dC (.bl b)) := de_cst pe_bl fun _ => .bl b
theorem de_non {j p} : DE X B (.Constant .none j p) (tC .non) (dC .non) := de_cst pe_non fun _ => .non
theorem de_str {x : Str} {j p} : DE X B (.Constant (.str x) j p) (tC (.str x)) (dC (.str x)) := de_cst pe_str fun _ => .str x
end
/-! ### arguments -/
abbrev DTA := En → (List R → En → Prop) → Prop
def SimA (B : Bs) (tA : TA) (t : DTA) : Prop := ∀ (F : Hp) (ρ : En) (σ : L2.St) (H : Hp) (P : List R → En → Prop) (Q : List V → Hp → Prop), Rel B F ρ σ H → t ρ P →
    (∀ rs vs F' ρ' H', Rel B F' ρ' σ H' → Same F F' → Kp ρ ρ' → AllR B F' ρ' σ H' vs rs → P rs ρ' → Q vs H') → tA σ H Q
structure DA (X : Cx) (B : Bs) (es : List Expr) (tA : TA) (t : DTA) : Prop where
  pe : PA X es tA
  sim : SimA B tA t
def dNil : DTA := fun ρ P => P [] ρ
def dCons (t : DT) (u : DTA) : DTA := fun ρ P => t ρ fun r ρ1 => u ρ1 fun rs ρ2 => P (r :: rs) ρ2
section
variable {X : Cx} {B : Bs} {e : Expr} {es : List Expr} {tE : TE} {tA : TA} {t : DT} {u : DTA}
theorem da_nil : DA X B [] tNil dNil := ⟨pa_nil, fun F ρ σ H P Q l w k => k [] [] F ρ H l (Same.refl _) Kp.refl .nil w⟩
theorem da_cons (h : DE X B e tE t) (g : DA X B es tA u) (hs : starEach (e :: es) X.env = (false, eval e X.env) :: starEach es X.env := by rfl) : DA X B (e :: es) (tCons tE tA) (dCons t u) := by
  refine ⟨pa_cons h.pe g.pe hs, fun F ρ σ H P Q l w k => h.sim.frz F ρ σ H _ _ l w fun r v F1 ρ1 H1 l1 s1 k1 rv p => ?_⟩
  refine g.sim F1 ρ1 σ H1 _ _ l1 p fun rs vs F2 ρ2 H2 l2 s2 k2 a p => ?_
  exact k _ _ F2 ρ2 H2 l2 (s1.trans s2) (k1.trans k2) (.cons (RvR.mono rv s2 k2) a) p
end
/-- a call by values -/
def dCa (d : List D → (R → Prop) → Prop) (u : DTA) : DT := fun ρ P => u ρ fun rs ρ1 => d (rs.map (vl ρ1)) fun r => bOk rs r ∧ P r ρ1
section
variable {X : Cx} {B : Bs} {e : Expr} {es : List Expr} {tA : TA} {u : DTA} {x : Str} {p pos : Pos} {id T : String} {r : List V → Hp → VK → Prop} {d : List D → (R → Prop) → Prop}
theorem cad_run (hd : CaD B r d) {F H : Hp} {ρ : En} {σ : L2.St} {vs : List V} {rs : List R} {P : R → Prop} {Q : VK} (l : Rel B F ρ σ H) (h : AllR B F ρ σ H vs rs)
    (w : d (rs.map (vl ρ)) fun r => bOk rs r ∧ P r) (k : Kt B F ρ σ P Q) : r vs H Q :=
  lendRun l h (fun P => d (rs.map (vl ρ)) P) (fun Q => r vs H Q) (fun F1 ρ1 l1 _ a P' Q' w' k' => hd F1 ρ1 σ H vs _ P' Q' l1 a w' k') w k
theorem de_callB (hc : CallR X (.builtin id) r) (hd : CaD B r d) (hg : Gl X x) (hm : X.mg x = none) (hv : bootBuiltins x = some (.builtin id)) (ha : DA X B (e :: es) tA u) (hn : x ≠ "__name__" := by decide) (hdb : (x == ("__debug__" : Str)) = false := by decide)
    (he : starEach (e :: es) X.env = (false, eval e X.env) :: starEach es X.env := by rfl) (hpl : (backTo pos (starEach es X.env)).any (·.1) = false := by rfl) : DE X B (.Call (.Name x p) (e :: es) [] pos) (tCB r tA) (dCa d u) := by
  refine ⟨pe_callB hc hg hm hv ha.pe hn hdb he hpl, fun F ρ σ H P Q l w k => ha.sim F ρ σ H _ _ l w fun rs vs F' ρ' H' l' s kp al q => ?_⟩
  exact cad_run hd l' al q fun r v F2 H2 l2 s2 rv p => k r v F2 ρ' H2 l2 (s.trans s2) kp rv p
theorem de_callTy (hc : CallR X (.type T) r) (hd : CaD B r d) (hg : Gl X x) (hm : X.mg x = none) (hv : bootBuiltins x = some (.type T)) (ha : DA X B (e :: es) tA u) (hn : x ≠ "__name__" := by decide) (hdb : (x == ("__debug__" : Str)) = false := by decide)
    (he : starEach (e :: es) X.env = (false, eval e X.env) :: starEach es X.env := by rfl) (hpl : (backTo pos (starEach es X.env)).any (·.1) = false := by rfl) : DE X B (.Call (.Name x p) (e :: es) [] pos) (tCB r tA) (dCa d u) := by
  refine ⟨pe_callTy hc hg hm hv ha.pe hn hdb he hpl, fun F ρ σ H P Q l w k => ha.sim F ρ σ H _ _ l w fun rs vs F' ρ' H' l' s kp al q => ?_⟩
  exact cad_run hd l' al q fun r v F2 H2 l2 s2 rv p => k r v F2 ρ' H2 l2 (s.trans s2) kp rv p
end
/-! ### displays -/
def dTup (u : DTA) : DT := fun ρ P => u ρ fun rs ρ1 => rs.length ≤ sizeLine ∧ bOk rs (.dat (.tup (rs.map (vl ρ1)))) ∧ P (.dat (.tup (rs.map (vl ρ1)))) ρ1
def dLst (u : DTA) : DT := fun ρ P => u ρ fun rs ρ1 => rs.length ≤ sizeLine ∧ rs.any R.isVar = false ∧ P (.new (rs.map (vl ρ1))) ρ1
section
variable {X : Cx} {B : Bs} {es : List Expr} {tA : TA} {u : DTA} {pos : Pos}
theorem AllR.len {F H : Hp} {ρ : En} {σ : L2.St} : ∀ {rs : List R} {vs : List V}, AllR B F ρ σ H vs rs → vs.length = rs.length
  | [], _, h => by cases h; rfl
  | _ :: _, _, h => by
    cases h with
    | cons a b => simp [AllR.len b]
theorem de_tup {k : Nat} (h : DA X B es tA u) : DE X B (.Tuple es k pos) (tTup tA) (dTup u) := by
  refine ⟨pe_tup h.pe, fun F ρ σ H P Q l w k => h.sim F ρ σ H _ _ l w fun rs vs F' ρ' H' l' s kp al q => ?_⟩
  refine ⟨by rw [al.len]; exact q.1, fun p np => ?_⟩
  refine lendRun l' al (fun P => P (.dat (.tup (rs.map (vl ρ'))))) (fun Q => Q (.ref p) (upd H' p (.tup vs))) (fun F1 ρ1 l1 _ a P' Q' w' k' => ?_) q.2 fun r v F2 H2 l2 s2 rv p => k r v F2 ρ' H2 l2 (s.trans s2) kp rv p
  obtain ⟨l3, s3⟩ := l1.newF (u := .tup vs) np
  exact k' (.dat (.tup _)) _ _ _ l3 s3 (Rv.tup (SqT.of upd_same) (a.mono s3)) w'
theorem de_lst (h : DA X B es tA u) : DE X B (.List es pos) (tLst tA) (dLst u) := by
  refine ⟨pe_lst h.pe, fun F ρ σ H P Q l w k => h.sim F ρ σ H _ _ l w fun rs vs F' ρ' H' l' s kp al q => ?_⟩
  refine ⟨by rw [al.len]; exact q.1, fun p np => ?_⟩
  obtain ⟨l3, n3⟩ := l'.newL np (al.plain l' q.2.1)
  exact k (.new _) _ F' ρ' _ l3 s kp n3 q.2.2
end
end Z

set_option Elab.async false
set_option linter.all false
set_option maxRecDepth 100000
namespace Z
open PySem L2
/-! ## operators -/
theorem op_or {X : Cx} {f : Value → Value → Sem Value} {r r' : R2} (h : OpR X f r) (g : OpR X f r') : OpR X f (fun x y H Q => r x y H Q ∨ r' x y H Q) := by
  intro pins s σ H x y v u Q I rx ry q
  rcases q with q | q
  · exact h pins s σ H x y v u Q I rx ry q
  · exact g pins s σ H x y v u Q I rx ry q
theorem opd_or1 {B : Bs} {r r' : R2} {d : D → D → (R → Prop) → Prop} (h : OpD B r d) : OpD B (fun x y H Q => r x y H Q ∨ r' x y H Q) d := fun F ρ σ H x y dx dy P Q l a b w k => .inl (h F ρ σ H x y dx dy P Q l a b w k)
theorem opd_or2 {B : Bs} {r r' : R2} {d : D → D → (R → Prop) → Prop} (h : OpD B r' d) : OpD B (fun x y H Q => r x y H Q ∨ r' x y H Q) d := fun F ρ σ H x y dx dy P Q l a b w k => .inr (h F ρ σ H x y dx dy P Q l a b w k)
def dI (C : Int → Int → Prop) (g : Int → Int → D) : D → D → (R → Prop) → Prop
  | .int i, .int j, P => C i j ∧ P (.dat (g i j))
  | _, _, _ => False
def dI0 (g : Int → Int → D) : D → D → (R → Prop) → Prop
  | .int i, .int j, P => P (.dat (g i j))
  | _, _, _ => False
section
variable {B : Bs}
theorem opd_I {C : Int → Int → Prop} {g : Int → Int → Int} : OpD B (rI C fun i j => .int (g i j)) (dI C fun i j => .int (g i j)) := by
  intro F ρ σ H x y dx dy P Q l a b w k
  cases dx <;> cases dy <;> first | exact w.elim | skip
  cases a; cases b
  exact ⟨_, _, rfl, rfl, w.1, k (.dat _) _ F H l (Same.refl _) (.int _) w.2⟩
theorem opd_I0 {g : Int → Int → Int} : OpD B (rI0 fun i j => .int (g i j)) (dI0 fun i j => .int (g i j)) := by
  intro F ρ σ H x y dx dy P Q l a b w k
  cases dx <;> cases dy <;> first | exact w.elim | skip
  cases a; cases b
  exact ⟨_, _, rfl, rfl, k (.dat _) _ F H l (Same.refl _) (.int _) w⟩
theorem opd_B0 {g : Int → Int → Bool} : OpD B (rI0 fun i j => .bl (g i j)) (dI0 fun i j => .bl (g i j)) := by
  intro F ρ σ H x y dx dy P Q l a b w k
  cases dx <;> cases dy <;> first | exact w.elim | skip
  cases a; cases b
  exact ⟨_, _, rfl, rfl, k (.dat _) _ F H l (Same.refl _) (.bl _) w⟩
/-! ### + -/
def dAdd : D → D → (R → Prop) → Prop
  | .int i, .int j, P => P (.dat (.int (i + j)))
  | .tup xs, .tup ys, P => xs.length + ys.length ≤ sizeLine ∧ P (.dat (.tup (xs ++ ys)))
  | .lst xs, .lst ys, P => xs.length + ys.length ≤ sizeLine ∧ P (.new (xs ++ ys))
  | _, _, _ => False
def rAdd (K : PySem.W.Frag) : R2 := fun x y H Q => rI0 (fun i j => .int (i + j)) x y H Q ∨ rCatA K x y H Q ∨ rCat x y H Q
theorem op_addA {X : Cx} (K : PySem.W.Frag) (h : X.K = K := by rfl) : OpR X (binaryOp .Add) (rAdd K) := op_or op_add (op_or (kcatT K h) op_cat)
theorem opd_add : OpD B (rAdd B.K) dAdd := by
  intro F ρ σ H x y dx dy P Q l a b w k
  cases dx <;> cases dy <;> first | exact w.elim | skip
  · cases a; cases b
    exact .inl ⟨_, _, rfl, rfl, k (.dat _) _ F H l (Same.refl _) (.int _) w⟩
  · cases a with
    | lst a1 a2 =>
      cases b with
      | lst b1 b2 =>
        refine .inr (.inr ⟨_, _, _, _, rfl, rfl, l.sub _ _ a1, l.sub _ _ b1, ?_, fun p np => ?_⟩)
        · rw [a2.len, b2.len]; exact w.1
        · obtain ⟨l3, n3⟩ := l.newL np (a2.app b2)
          exact k (.new _) _ _ _ l3 (Same.refl _) n3 w.2
  · cases a with
    | tup a1 a2 =>
      cases b with
      | tup b1 b2 =>
        refine .inr (.inl ⟨_, _, _, _, rfl, rfl, Same.sqT l.sub a1, Same.sqT l.sub b1, ?_, fun e => ?_, fun e1 e2 => ?_, fun e1 e2 p np => ?_⟩)
        · rw [a2.len, b2.len]; exact w.1
        · subst e
          cases a2
          exact k (.dat _) _ F H l (Same.refl _) (.tup b1 b2) w.2
        · subst e2
          cases b2
          have w2 := w.2
          rw [List.append_nil] at w2
          exact k (.dat _) _ F H l (Same.refl _) (.tup a1 a2) w2
        · obtain ⟨l3, s3⟩ := l.newF (u := .tup _) np
          exact k (.dat _) _ _ _ l3 s3 (Rv.tup (SqT.of upd_same) ((a2.app b2).mono s3)) w.2
/-! ### == -/
mutual
def toPy : D → PyData
  | .bl b => .bool b
  | .int i => .int i
  | .str x => .str x
  | .lst ds => .list (toPyA ds)
  | .tup ds => .tuple (toPyA ds)
  | .tpx ds => .tuple (toPyA ds)
  | _ => .none
def toPyA : List D → List PyData
  | [] => []
  | d :: ds => toPy d :: toPyA ds
end
mutual
def pyd : D → Bool
  | .non => true
  | .bl b => true
  | .int i => true
  | .str x => true
  | .lst ds => pydA ds
  | .tup ds => pydA ds
  | .tpx ds => pydA ds
  | _ => false
def pydA : List D → Bool
  | [] => true
  | d :: ds => pyd d && pydA ds
end
mutual
theorem Rv.dp {K : PySem.W.Frag} {hd : Option Addr} {F H : Hp} (s : Same F H) : ∀ (d : D) (v : V), pyd d = true → Rv K hd F v d → Dp K H v (toPy d)
  | .non, _, _, q => by cases q; exact .non
  | .bl b, _, _, q => by cases q; exact .bl b
  | .int i, _, _, q => by cases q; exact .int i
  | .str x, _, _, q => by cases q; exact .str x
  | .lst ds, _, n, q => by
    cases q with
    | lst a b => exact .lst (.of (s _ _ a)) (RvA.dp s ds _ (by simpa [pyd] using n) b)
  | .tup ds, _, n, q => by
    cases q with
    | tup a b => exact .tup (Same.sqT s a) (RvA.dp s ds _ (by simpa [pyd] using n) b)
  | .dct _ ds, _, n, _ => by simp [pyd] at n
  | .obj C ns ds, _, n, _ => by simp [pyd] at n
  | .cls C, _, n, _ => by simp [pyd] at n
  | .hnd, _, n, _ => by simp [pyd] at n
  | .ty _, _, n, _ => by simp [pyd] at n
  | .tpx ds, _, n, q => by
    cases q with
    | tpx a e b => exact .tup (.inl (.inr ⟨_, s _ _ a⟩)) (RvA.dp s ds _ (by simpa [pyd] using n) b)
theorem RvA.dp {K : PySem.W.Frag} {hd : Option Addr} {F H : Hp} (s : Same F H) : ∀ (ds : List D) (vs : List V), pydA ds = true → RvA K hd F vs ds → DpAll K H vs (toPyA ds)
  | [], _, _, q => by cases q; exact .nil
  | d :: ds, _, n, q => by
    simp [pydA] at n
    cases q with
    | cons a b => exact .cons (Rv.dp s d _ n.1 a) (RvA.dp s ds _ n.2 b)
end
def eqD (a b : D) : Bool := PyData.eqv (toPy a) (toPy b)
def shp (d : D) : Bool := pyd d && SeqAt.shaped (toPy d)
def dEq (neg : Bool) (a b : D) (P : R → Prop) : Prop := shp a = true ∧ shp b = true ∧ P (.dat (.bl (if neg then !eqD a b else eqD a b)))
theorem opd_eq : OpD B (rEqD B.K) (dEq false) := by
  intro F ρ σ H x y dx dy P Q l a b w k
  obtain ⟨w1, w2, w3⟩ := w
  unfold shp at w1 w2
  rw [Bool.and_eq_true] at w1 w2
  exact ⟨_, _, Rv.dp l.sub _ _ w1.1 a, Rv.dp l.sub _ _ w2.1 b, w1.2, w2.2, k (.dat _) _ F H l (Same.refl _) (.bl _) w3⟩
theorem opd_ne : OpD B (rNeD B.K) (dEq true) := by
  intro F ρ σ H x y dx dy P Q l a b w k
  obtain ⟨w1, w2, w3⟩ := w
  unfold shp at w1 w2
  rw [Bool.and_eq_true] at w1 w2
  exact ⟨_, _, Rv.dp l.sub _ _ w1.1 a, Rv.dp l.sub _ _ w2.1 b, w1.2, w2.2, k (.dat _) _ F H l (Same.refl _) (.bl _) w3⟩
/-! ### is None, is True -/
def dIsN (neg : Bool) : D → D → (R → Prop) → Prop
  | .non, .non, P => P (.dat (.bl (!neg)))
  | _, .non, P => P (.dat (.bl neg))
  | _, _, _ => False
theorem opd_isN : OpD B (fun x y H Q => y = .non ∧ Q (.bl (decide (x = .non))) H) (dIsN false) := by
  intro F ρ σ H x y dx dy P Q l a b w k
  cases dy <;> first | (cases dx <;> exact w.elim) | skip
  cases b
  refine ⟨rfl, ?_⟩
  cases dx <;> (cases a; exact k (.dat _) _ F H l (Same.refl _) (.bl _) w)
theorem opd_notN : OpD B (fun x y H Q => y = .non ∧ Q (.bl (!decide (x = .non))) H) (dIsN true) := by
  intro F ρ σ H x y dx dy P Q l a b w k
  cases dy <;> first | (cases dx <;> exact w.elim) | skip
  cases b
  refine ⟨rfl, ?_⟩
  cases dx <;> (cases a; exact k (.dat _) _ F H l (Same.refl _) (.bl _) w)
def dIsB : D → D → (R → Prop) → Prop
  | .bl a, .bl b, P => P (.dat (.bl (decide (a = b))))
  | _, _, _ => False
theorem opd_isB : OpD B (fun x y H Q => ∃ a b, x = .bl a ∧ y = .bl b ∧ Q (.bl (decide (a = b))) H) dIsB := by
  intro F ρ σ H x y dx dy P Q l a b w k
  cases dx <;> cases dy <;> first | exact w.elim | skip
  cases a; cases b
  exact ⟨_, _, rfl, rfl, k (.dat _) _ F H l (Same.refl _) (.bl _) w⟩
/-! ### in -/
def flatD : D → Bool
  | .non => true
  | .bl _ => true
  | .int _ => true
  | .str _ => true
  | _ => false
def vOf : D → V
  | .bl b => .bl b
  | .int i => .int i
  | .str x => .str x
  | _ => .non
theorem Rv.flat {K : PySem.W.Frag} {hd : Option Addr} {F : Hp} {d : D} {v : V} (h : Rv K hd F v d) (f : flatD d = true) : v = vOf d ∧ flatV v = true := by
  cases h <;> first | exact ⟨rfl, rfl⟩ | cases f
theorem RvA.flat {K : PySem.W.Frag} {hd : Option Addr} {F : Hp} : ∀ {ds : List D} {vs : List V}, RvA K hd F vs ds → ds.all flatD = true → vs = ds.map vOf ∧ vs.all flatV = true
  | [], _, h, _ => by cases h; exact ⟨rfl, rfl⟩
  | d :: ds, _, h, f => by
    cases h with
    | cons a b =>
      rw [List.all_cons, Bool.and_eq_true] at f
      obtain ⟨e1, e2⟩ := Rv.flat a f.1
      obtain ⟨e3, e4⟩ := RvA.flat b f.2
      exact ⟨by rw [e1, e3]; rfl, by rw [List.all_cons, e2, e4]; rfl⟩
def seqOfD : D → Option (List D)
  | .lst ds => some ds
  | .tup ds => some ds
  | .tpx ds => some ds
  | _ => none
theorem Rv.seq {F H : Hp} (s : Same F H) {d : D} {v : V} {ds : List D} (h : Rv B.K B.hd F v d) (e : seqOfD d = some ds) : ∃ p ys, v = .ref p ∧ (SqL B.K H p ys ∨ SqT B.K H p ys) ∧ RvA B.K B.hd F ys ds := by
  cases d <;> first | cases e | skip
  · cases h with
    | lst a b => exact ⟨_, _, rfl, .inl (.of (s _ _ a)), b⟩
  · cases h with
    | tup a b => exact ⟨_, _, rfl, .inr (Same.sqT s a), b⟩
  · cases h with
    | tpx a e b => exact ⟨_, _, rfl, .inr (.inl (.inr ⟨_, s _ _ a⟩)), b⟩
def inD (a : D) (ds : List D) : Bool := inV (vOf a) (ds.map vOf)
def dIn (neg : Bool) (a b : D) (P : R → Prop) : Prop := match seqOfD b with
  | some ds => flatD a = true ∧ ds.all flatD = true ∧ P (.dat (.bl (if neg then !inD a ds else inD a ds)))
  | none => False
theorem opd_in {neg : Bool} : OpD B (rIn B.K neg) (dIn neg) := by
  intro F ρ σ H x y dx dy P Q l a b w k
  unfold dIn at w
  cases e : seqOfD dy with
  | none => rw [e] at w; exact w.elim
  | some ds =>
    rw [e] at w
    obtain ⟨w1, w2, w3⟩ := w
    obtain ⟨p, ys, rfl, hq, ha⟩ := b.seq l.sub e
    obtain ⟨rfl, f1⟩ := a.flat w1
    obtain ⟨rfl, f2⟩ := ha.flat w2
    exact ⟨p, _, rfl, hq, f1, f2, k (.dat _) _ F H l (Same.refl _) (.bl _) w3⟩
/-! ### xs[i] -/
def dIx (a b : D) (P : R → Prop) : Prop := match seqOfD a, b with
  | some ds, .int i => ∃ d, atI ds i = some d ∧ P (.dat d)
  | _, _ => False
theorem RvA.atI {K : PySem.W.Frag} {hd : Option Addr} {F : Hp} {ds : List D} {vs : List V} {i : Int} {d : D} (h : RvA K hd F vs ds) (e : atI ds i = some d) : ∃ v, L2.atI vs i = some v ∧ Rv K hd F v d := by
  unfold L2.atI at e ⊢
  rw [h.len]
  cases q : ixN ds.length i with
  | none => rw [q] at e; cases e
  | some j =>
    rw [q] at e
    exact h.get' e
theorem opd_ix : OpD B (rIx B.K) dIx := by
  intro F ρ σ H x y dx dy P Q l a b w k
  unfold dIx at w
  cases e : seqOfD dx with
  | none => rw [e] at w; exact w.elim
  | some ds =>
    rw [e] at w
    cases dy <;> first | exact w.elim | skip
    cases b
    obtain ⟨d, w1, w2⟩ := w
    obtain ⟨p, ys, rfl, hq, ha⟩ := a.seq l.sub e
    obtain ⟨v, e1, e2⟩ := ha.atI w1
    have q := k (.dat d) v F H l (Same.refl _) e2 w2
    rcases hq with hq | hq
    · exact .inl ⟨p, ys, _, v, rfl, rfl, hq, e1, q⟩
    · exact .inr (.inl ⟨p, ys, _, v, rfl, rfl, hq, e1, q⟩)
/-! ### -x -/
def dNeg : D → (R → Prop) → Prop
  | .int i, P => P (.dat (.int (-i)))
  | _, _ => False
theorem und_neg : UnD B (rU fun i => .int (-i)) dNeg := by
  intro F ρ σ H x dx P Q l a w k
  cases dx <;> first | exact w.elim | skip
  cases a
  exact ⟨_, rfl, k (.dat _) _ F H l (Same.refl _) (.int _) w⟩
/-! ### built-ins by values -/
def dLen : List D → (R → Prop) → Prop
  | [a], P => match seqOfD a with
    | some ds => P (.dat (.int ds.length))
    | none => False
  | _, _ => False
theorem RvA.one {K : PySem.W.Frag} {hd : Option Addr} {F : Hp} {vs : List V} {d : D} (h : RvA K hd F vs [d]) : ∃ v, vs = [v] ∧ Rv K hd F v d := by
  cases h with
  | cons a b =>
    cases b
    exact ⟨_, rfl, a⟩
theorem cad_len : CaD B (rLenQ B.K) dLen := by
  intro F ρ σ H xs ds P Q l a w k
  match ds, w with
  | [d], w =>
    obtain ⟨v, rfl, r⟩ := a.one
    unfold dLen at w
    cases e : seqOfD d with
    | none => simp only [e] at w
    | some es =>
      simp only [e] at w
      obtain ⟨p, ys, rfl, hq, ha⟩ := r.seq l.sub e
      refine ⟨p, ys, rfl, hq, ?_⟩
      rw [ha.len]
      exact k (.dat _) _ F H l (Same.refl _) (.int _) w
def dList : List D → (R → Prop) → Prop
  | [a], P => match seqOfD a with
    | some ds => P (.new ds)
    | none => False
  | _, _ => False
theorem cad_list : CaD B (rListQ B.K) dList := by
  intro F ρ σ H xs ds P Q l a w k
  match ds, w with
  | [d], w =>
    obtain ⟨v, rfl, r⟩ := a.one
    unfold dList at w
    cases e : seqOfD d with
    | none => simp only [e] at w
    | some es =>
      simp only [e] at w
      obtain ⟨p, ys, rfl, hq, ha⟩ := r.seq l.sub e
      refine ⟨p, ys, rfl, hq, fun q nq => ?_⟩
      obtain ⟨l3, n3⟩ := l.newL nq ha
      exact k (.new _) _ F _ l3 (Same.refl _) n3 w
def tupOfD : D → Option D
  | .lst ds => some (.tup ds)
  | .tup ds => some (.tup ds)
  | .tpx ds => some (.tpx ds)
  | _ => none
def dTuple : List D → (R → Prop) → Prop
  | [a], P => match tupOfD a with
    | some d => P (.dat d)
    | none => False
  | _, _ => False
theorem cad_tuple : CaD B (rTupQ B.K) dTuple := by
  intro F ρ σ H xs ds P Q l a w k
  match ds, w with
  | [d], w =>
    obtain ⟨v, rfl, r⟩ := a.one
    cases d <;> first | exact w.elim | skip
    · cases r with
      | lst a1 a2 =>
        refine ⟨_, _, rfl, .inl ⟨.of (l.sub _ _ a1), fun q nq => ?_⟩⟩
        obtain ⟨l3, s3⟩ := l.newF (u := .tup _) nq
        exact k (.dat (.tup _)) _ _ _ l3 s3 (Rv.tup (SqT.of upd_same) (a2.mono s3)) w
    · cases r with
      | tup a1 a2 => exact ⟨_, _, rfl, .inr ⟨Same.sqT l.sub a1, k (.dat (.tup _)) _ F H l (Same.refl _) (Rv.tup a1 a2) w⟩⟩
    · cases r with
      | tpx a1 e1 a2 => exact ⟨_, _, rfl, .inr ⟨.inl (.inr ⟨_, l.sub _ _ a1⟩), k (.dat (.tpx _)) _ F H l (Same.refl _) (Rv.tpx a1 e1 a2) w⟩⟩
end
end Z

set_option Elab.async false
set_option linter.all false
set_option maxRecDepth 100000
namespace Z
open PySem L2
/-! ## tests -/
abbrev DBT := En → (Bool → En → Prop) → Prop
def SimB (B : Bs) (tT : TT) (t : DBT) : Prop := ∀ (F : Hp) (ρ : En) (σ : L2.St) (H : Hp) (P : Bool → En → Prop) (Q : Bool → Hp → Prop), Rel B F ρ σ H → t ρ P →
    (∀ b F' ρ' H', Rel B F' ρ' σ H' → Same F F' → Kp ρ ρ' → P b ρ' → Q b H') → tT σ H Q
structure DTs (X : Cx) (B : Bs) (e : Expr) (tT : TT) (t : DBT) : Prop where
  pt : PT X e tT
  sim : SimB B tT t
structure DWs (X : Cx) (B : Bs) (e : Expr) (tT : TT) (t : DBT) : Prop where
  pw : PW X e tT
  sim : SimB B tT t
/-- a value that is a bool -/
def dTB (t : DT) : DBT := fun ρ P => t ρ fun r ρ1 => match r with
  | .dat (.bl c) => P c ρ1
  | _ => False
section
variable {X : Cx} {B : Bs} {a b c e : Expr} {rest : List Expr} {tA tB tC' : TE} {ta tb tc : DT} {tT tU : TT} {u u' : DBT} {pos : Pos}
theorem Sim.tst (h : Sim B tA ta) : SimB B (fun σ H Q => tA σ H fun x H1 => ∃ c, x = .bl c ∧ Q c H1) (dTB ta) := by
  intro F ρ σ H P Q l w k
  refine h F ρ σ H _ _ l w fun r v F' ρ' H' l' s kp rv p => ?_
  match r, p with
  | .dat (.bl c), p =>
    cases rv
    exact ⟨c, rfl, k c F' ρ' H' l' s kp p⟩
theorem dt_val (h : DE X B e tA ta) (he : ∀ whole, isTrue e X.env whole = (do let v ← whole; standAt e.pos; holding [v] (truthy v)) := by intro _; rfl) : DTs X B e (L2.tB tA) (dTB ta) := ⟨pt_val h.pe he, h.sim.tst⟩
theorem dt_cmp {op : CmpOp} {r : R2} {d : D → D → (R → Prop) → Prop} (ho : OpR X (compareOp op) r) (hd : OpD B r d) (ha : DE X B a tA ta) (hb : DE X B b tB tb) (hm : behindInMarks op b = false) : DTs X B (.Compare a [op] [b] pos) (tTest (tOp r tA tB)) (dTB (dBin d ta tb)) :=
  ⟨pt_cmpR ho ha.pe hb.pe hm, Sim.tst (de_cmp (X := X) (pos := pos) ho hd ha hb hm).sim⟩
/-! ### truth -/
def truD : D → Option Bool
  | .non => some false
  | .bl b => some b
  | .int i => some (i != 0)
  | .lst ds => some (!ds.isEmpty)
  | .tup ds => some (!ds.isEmpty)
  | .tpx ds => some (!ds.isEmpty)
  | .dct ks _ => some (!ks.isEmpty)
  | _ => none
def dTru (d : D) (P : R → Prop) : Prop := match truD d with
  | some b => P (.dat (.bl b))
  | none => False
theorem isEmpty_rv {K : PySem.W.Frag} {hd : Option Addr} {F : Hp} {ds : List D} {vs : List V} (h : RvA K hd F vs ds) : vs.isEmpty = ds.isEmpty := by
  have := h.len
  cases vs <;> cases ds <;> first | rfl | (simp at this)
theorem und_tru (g : Bool → Bool) : UnD B (fun x H Q => ∃ k, TruV B.K x H k ∧ Q (.bl (g k)) H) fun d P => match truD d with
  | some b => P (.dat (.bl (g b)))
  | none => False := by
  intro F ρ σ H x dx P Q l a w k
  have fin : ∀ b, TruV B.K x H b → truD dx = some b → ∃ k, TruV B.K x H k ∧ Q (.bl (g k)) H := fun b h e => by
    rw [e] at w
    exact ⟨b, h, k (.dat _) _ F H l (Same.refl _) (.bl _) w⟩
  cases dx <;> first | exact w.elim | skip
  · cases a; exact fin _ rfl rfl
  · cases a; exact fin _ rfl rfl
  · cases a; exact fin _ rfl rfl
  · cases a with
    | lst a1 a2 => exact fin _ (.inl ⟨_, .of (l.sub _ _ a1), by rw [isEmpty_rv a2]⟩) rfl
  · cases a with
    | tup a1 a2 => exact fin _ (.inr (.inl ⟨_, Same.sqT l.sub a1, by rw [isEmpty_rv a2]⟩)) rfl
  · cases a with
    | @dct _ kv _ _ a1 a2 a3 =>
      refine fin _ (.inr (.inr ⟨_, l.sub _ _ a1, ?_⟩)) rfl
      subst a2
      cases kv <;> rfl
  · cases a with
    | tpx a1 e1 a2 => exact fin _ (.inr (.inl ⟨_, .inl (.inr ⟨_, l.sub _ _ a1⟩), by rw [isEmpty_rv a2]⟩)) rfl
def dTT (ta : DT) : DBT := fun ρ P => ta ρ fun r ρ1 => match truD (vl ρ1 r) with
  | some b => P b ρ1
  | none => False
theorem dt_truth (K : PySem.W.Frag) (h : DE X B e tA ta) (he : ∀ whole, isTrue e X.env whole = (do let v ← whole; standAt e.pos; holding [v] (truthy v)) := by intro _; rfl) (hK : X.K = B.K := by rfl) (hB : B.K = K := by rfl) : DTs X B e (tTruQ K tA) (dTT ta) := by
  subst hB
  refine ⟨kt_truth B.K h.pe he hK, fun F ρ σ H P Q l w k => h.sim.frz F ρ σ H _ _ l w fun r v F' ρ' H' l' s kp rv p => ?_⟩
  have q := und_run (B := B) (Q := fun x H2 => ∃ c, x = .bl c ∧ Q c H2) (P := fun r => ∃ c, r = .dat (.bl c) ∧ P c ρ') (und_tru id) l' rv (by
    show match truD (vl ρ' r) with
      | some b => _
      | none => False
    cases e1 : truD (vl ρ' r) with
    | none => simp only [e1] at p
    | some b =>
      simp only [e1] at p
      exact ⟨fun _ => rfl, b, rfl, p⟩) (fun r v F2 H2 l2 s2 rv2 ⟨c, e, p2⟩ => by
    subst e
    cases rv2
    exact ⟨c, rfl, k c F2 ρ' H2 l2 (s.trans s2) kp p2⟩)
  obtain ⟨b, h1, c, e, h2⟩ := q
  cases e
  exact ⟨b, h1, h2⟩
def dNotT (ta : DT) : DT := fun ρ P => ta ρ fun r ρ1 => match truD (vl ρ1 r) with
  | some b => P (.dat (.bl (!b))) ρ1
  | none => False
theorem de_notT (K : PySem.W.Frag) (h : DE X B a tA ta) (hK : X.K = B.K := by rfl) (hB : B.K = K := by rfl) : DE X B (.UnaryOp .Not a pos) (tNotT K tA) (dNotT ta) := by
  subst hB
  refine ⟨by rw [← hK]; exact pe_notT h.pe, fun F ρ σ H P Q l w k => h.sim.frz F ρ σ H _ _ l w fun r v F' ρ' H' l' s kp rv p => ?_⟩
  refine und_run (B := B) (P := fun r => P r ρ') (und_tru fun b => !b) l' rv (by
    show match truD (vl ρ' r) with
      | some b => _
      | none => False
    cases e1 : truD (vl ρ' r) with
    | none => simp only [e1] at p
    | some b =>
      simp only [e1] at p
      exact ⟨fun _ => rfl, p⟩) (fun r v F2 H2 l2 s2 rv2 p2 => k r v F2 ρ' H2 l2 (s.trans s2) kp rv2 p2)
/-! ### and, or, not -/
def dAnd (t u : DBT) : DBT := fun ρ P => t ρ fun c ρ1 => if c = true then u ρ1 P else P false ρ1
def dOr (t u : DBT) : DBT := fun ρ P => t ρ fun c ρ1 => if c = true then P true ρ1 else u ρ1 P
def dNot (t : DBT) : DBT := fun ρ P => t ρ fun c ρ1 => P (!c) ρ1
theorem dw_and1 (h : DTs X B a tT u) : DWs X B (.BoolOp .And [a] pos) tT u := ⟨pw_and1 h.pt, h.sim⟩
theorem dw_or1 (h : DTs X B a tT u) : DWs X B (.BoolOp .Or [a] pos) tT u := ⟨pw_or1 h.pt, h.sim⟩
theorem dw_and (h : DTs X B a tT u) (g : DWs X B (.BoolOp .And (b :: rest) pos) tU u') : DWs X B (.BoolOp .And (a :: b :: rest) pos) (tAnd tT tU) (dAnd u u') := by
  refine ⟨pw_and h.pt g.pw, fun F ρ σ H P Q l w k => h.sim F ρ σ H _ _ l w fun c F' ρ' H' l' s kp p => ?_⟩
  cases c with
  | true => exact g.sim F' ρ' σ H' P Q l' p fun b F2 ρ2 H2 l2 s2 kp2 p2 => k b F2 ρ2 H2 l2 (s.trans s2) (kp.trans kp2) p2
  | false => exact k false F' ρ' H' l' s kp p
theorem dw_or (h : DTs X B a tT u) (g : DWs X B (.BoolOp .Or (b :: rest) pos) tU u') : DWs X B (.BoolOp .Or (a :: b :: rest) pos) (tOr tT tU) (dOr u u') := by
  refine ⟨pw_or h.pt g.pw, fun F ρ σ H P Q l w k => h.sim F ρ σ H _ _ l w fun c F' ρ' H' l' s kp p => ?_⟩
  cases c with
  | false => exact g.sim F' ρ' σ H' P Q l' p fun b F2 ρ2 H2 l2 s2 kp2 p2 => k b F2 ρ2 H2 l2 (s.trans s2) (kp.trans kp2) p2
  | true => exact k true F' ρ' H' l' s kp p
theorem DWs.ts (h : DWs X B e tT u) : DTs X B e tT u := ⟨h.pw.pt, h.sim⟩
theorem dt_not (h : DTs X B a tT u) : DTs X B (.UnaryOp .Not a pos) (tNot tT) (dNot u) :=
  ⟨pt_not h.pt, fun F ρ σ H P Q l w k => h.sim F ρ σ H _ _ l w fun c F' ρ' H' l' s kp p => k (!c) F' ρ' H' l' s kp p⟩
/-- as values -/
def dAndV (ta tb : DT) : DT := fun ρ P => ta ρ fun r ρ1 => match r with
  | .dat (.bl c) => if c = true then tb ρ1 P else P (.dat (.bl false)) ρ1
  | _ => False
def dOrV (ta tb : DT) : DT := fun ρ P => ta ρ fun r ρ1 => match r with
  | .dat (.bl c) => if c = true then P (.dat (.bl true)) ρ1 else tb ρ1 P
  | _ => False
theorem de_one {op : BoolOp} (h : DE X B a tA ta) : DE X B (.BoolOp op [a] pos) tA ta := ⟨pe_one h.pe, h.sim⟩
theorem de_and (h : DE X B a tA ta) (g : DE X B (.BoolOp .And (b :: rest) pos) tB tb) : DE X B (.BoolOp .And (a :: b :: rest) pos) (tAndV tA tB) (dAndV ta tb) := by
  refine ⟨pe_and h.pe g.pe, fun F ρ σ H P Q l w k => h.sim F ρ σ H _ _ l w fun r v F' ρ' H' l' s kp rv p => ?_⟩
  match r, p with
  | .dat (.bl c), p =>
    cases rv
    refine ⟨c, rfl, ?_⟩
    cases c with
    | true => exact g.sim F' ρ' σ H' P Q l' p fun r v F2 ρ2 H2 l2 s2 kp2 rv2 p2 => k r v F2 ρ2 H2 l2 (s.trans s2) (kp.trans kp2) rv2 p2
    | false => exact k (.dat (.bl false)) _ F' ρ' H' l' s kp (.bl _) p
theorem de_or (h : DE X B a tA ta) (g : DE X B (.BoolOp .Or (b :: rest) pos) tB tb) : DE X B (.BoolOp .Or (a :: b :: rest) pos) (tOrV tA tB) (dOrV ta tb) := by
  refine ⟨pe_or h.pe g.pe, fun F ρ σ H P Q l w k => h.sim F ρ σ H _ _ l w fun r v F' ρ' H' l' s kp rv p => ?_⟩
  match r, p with
  | .dat (.bl c), p =>
    cases rv
    refine ⟨c, rfl, ?_⟩
    cases c with
    | false => exact g.sim F' ρ' σ H' P Q l' p fun r v F2 ρ2 H2 l2 s2 kp2 rv2 p2 => k r v F2 ρ2 H2 l2 (s.trans s2) (kp.trans kp2) rv2 p2
    | true => exact k (.dat (.bl true)) _ F' ρ' H' l' s kp (.bl _) p
def dIfE (t : DBT) (ta tb : DT) : DT := fun ρ P => t ρ fun c ρ1 => if c = true then ta ρ1 P else tb ρ1 P
theorem de_ifExp (hc : DTs X B c tT u) (h : DE X B a tA ta) (g : DE X B b tB tb) : DE X B (.IfExp c a b pos) (tIf tT tA tB) (dIfE u ta tb) := by
  refine ⟨pe_ifExp hc.pt h.pe g.pe, fun F ρ σ H P Q l w k => hc.sim F ρ σ H _ _ l w fun c F' ρ' H' l' s kp p => ?_⟩
  cases c with
  | true => exact h.sim F' ρ' σ H' P Q l' p fun r v F2 ρ2 H2 l2 s2 kp2 rv2 p2 => k r v F2 ρ2 H2 l2 (s.trans s2) (kp.trans kp2) rv2 p2
  | false => exact g.sim F' ρ' σ H' P Q l' p fun r v F2 ρ2 H2 l2 s2 kp2 rv2 p2 => k r v F2 ρ2 H2 l2 (s.trans s2) (kp.trans kp2) rv2 p2
/-! ### isinstance of a built-in type, of a couple of them -/
inductive Ty5 where
  | B | I | S | L | T
def Ty5.nm : Ty5 → String
  | .B => "bool" | .I => "int" | .S => "str" | .L => "list" | .T => "tuple"
def isT5 : Ty5 → D → Bool
  | .B, .bl _ => true
  | .I, .bl _ => true
  | .I, .int _ => true
  | .S, .str _ => true
  | .L, .lst _ => true
  | .T, .tup _ => true
  | .T, .tpx _ => true
  | _, _ => false
def plainD : D → Bool
  | .non => true | .bl _ => true | .int _ => true | .str _ => true | .lst _ => true | .tup _ => true | .tpx _ => true | .dct _ _ => true
  | _ => false
def pyOf : D → PyData
  | .bl b => .bool b | .int i => .int i | .str x => .str x | .lst _ => .list [] | .tup _ => .tuple [] | .tpx _ => .tuple [] | .dct _ _ => .dict [] | _ => .none
theorem ty_of_rv {F H : Hp} (s : Same F H) {d : D} {v : V} (h : Rv B.K B.hd F v d) (p : plainD d = true) : TyX B.K H v (.type (tyN (pyOf d))) := by
  cases d <;> first | cases p | skip
  · cases h; exact .base .non
  · cases h; exact .base (.bl _)
  · cases h; exact .base (.int _)
  · cases h; exact .base (.str _)
  · cases h with
    | lst a _ => exact .base (.lst (s _ _ a))
  · cases h with
    | tup a _ =>
      rcases a with (a | ⟨o, a⟩) | ⟨o, its, n, k, c, _⟩
      · exact .base (.tup (s _ _ a))
      · exact .fTuple (s _ _ a)
      · exact .kTuple k c
  · cases h with
    | dct a _ _ => exact .base (.dK (s _ _ a))
  · cases h with
    | tpx a _ _ => exact .fTuple (s _ _ a)
theorem kb5 (τ : Ty5) (d : D) : kitB (tyN (pyOf d)) τ.nm = some (isT5 τ d) := by
  cases τ
  · refine (kb_bool (pyOf d)).trans ?_
    cases d <;> rfl
  · refine (kb_int (pyOf d)).trans ?_
    cases d <;> rfl
  · refine (kb_str (pyOf d)).trans ?_
    cases d <;> rfl
  · refine (kb_list (pyOf d)).trans ?_
    cases d <;> rfl
  · refine (kb_tuple (pyOf d)).trans ?_
    cases d <;> rfl
def isiD (g : D → Bool) (d : D) (P : R → Prop) : Prop := plainD d = true ∧ P (.dat (.bl (g d)))
theorem und_isi (τ : Ty5) : UnD B (fun x H Q => rIsi B.K [x, .ty τ.nm] H Q) (isiD (isT5 τ)) := by
  intro F ρ σ H x dx P Q l a w k
  exact ⟨_, _, _, _, _, rfl, .ty _, ty_of_rv l.sub a w.1, kit_ty (kb5 τ dx), k (.dat _) _ F H l (Same.refl _) (.bl _) w.2⟩
theorem de_isi (K : PySem.W.Frag) (τ : Ty5) {ce : Expr} {p : Pos} (hg : Gl X "isinstance") (hm : X.mg "isinstance" = none) (h : DE X B e tA ta) (hc : PE X ce (tC (.ty τ.nm))) (hK : X.K = B.K := by rfl) (hB : B.K = K := by rfl)
    (he : starEach [e, ce] X.env = (false, eval e X.env) :: starEach [ce] X.env := by rfl) (he2 : starEach [ce] X.env = (false, eval ce X.env) :: starEach [] X.env := by rfl) (hpl : (backTo pos (starEach [ce] X.env)).any (·.1) = false := by rfl) :
    DE X B (.Call (.Name "isinstance" p) [e, ce] [] pos) (tCB (rIsi K) (tCons tA (tCons (tC (.ty τ.nm)) tNil))) (dUn (isiD (isT5 τ)) ta) := by
  subst hB
  refine ⟨pe_callB (kisi B.K hK) hg hm (by decide +kernel) (pa_cons h.pe (pa_cons hc pa_nil he2) he) (by decide) (by decide) he hpl, fun F ρ σ H P Q l w k => h.sim.frz F ρ σ H _ _ l w fun r v F' ρ' H' l' s kp rv p => ?_⟩
  exact und_run (und_isi τ) l' rv p fun r v F2 H2 l2 s2 rv p => k r v F2 ρ' H2 l2 (s.trans s2) kp rv p
/-- isinstance(e, (list, tuple)) -/
def isLT : D → Bool
  | .lst _ => true
  | .tup _ => true
  | .tpx _ => true
  | _ => false
theorem de_isiLT (K : PySem.W.Frag) {c1 c2 : Expr} {n : Nat} {p p2 : Pos} (hg : Gl X "isinstance") (hm : X.mg "isinstance" = none) (h : DE X B e tA ta) (h1 : PE X c1 (tC (.ty "list"))) (h2 : PE X c2 (tC (.ty "tuple"))) (hK : X.K = B.K := by rfl) (hB : B.K = K := by rfl)
    (he : starEach [e, .Tuple [c1, c2] n p2] X.env = (false, eval e X.env) :: starEach [.Tuple [c1, c2] n p2] X.env := by rfl) (he2 : starEach [.Tuple [c1, c2] n p2] X.env = (false, eval (.Tuple [c1, c2] n p2) X.env) :: starEach [] X.env := by rfl)
    (he3 : starEach [c1, c2] X.env = (false, eval c1 X.env) :: starEach [c2] X.env := by rfl) (he4 : starEach [c2] X.env = (false, eval c2 X.env) :: starEach [] X.env := by rfl) (hpl : (backTo pos (starEach [.Tuple [c1, c2] n p2] X.env)).any (·.1) = false := by rfl) :
    DE X B (.Call (.Name "isinstance" p) [e, .Tuple [c1, c2] n p2] [] pos) (tCB (rIsiT K) (tCons tA (tCons (tTup (tCons (tC (.ty "list")) (tCons (tC (.ty "tuple")) tNil))) tNil))) (dUn (isiD isLT) ta) := by
  subst hB
  refine ⟨pe_callB (kisiT B.K hK) hg hm (by decide +kernel) (pa_cons h.pe (pa_cons (pe_tup (pa_cons h1 (pa_cons h2 pa_nil he4) he3)) pa_nil he2) he) (by decide) (by decide) he hpl, fun F ρ σ H P Q l w k => h.sim.frz F ρ σ H _ _ l w fun r v F' ρ' H' l' s kp rv p => ?_⟩
  refine ⟨by show 2 ≤ sizeLine; decide, fun q nq => ?_⟩
  have l3 := l'.newO (u := .tup [.ty "list", .ty "tuple"]) nq
  refine und_run (B := B) (r := fun x H Q => H q = some (.tup [.ty "list", .ty "tuple"]) → rIsiT B.K [x, .ref q] H Q) (d := isiD isLT) (P := fun r => P r ρ') (fun F ρ σ H x dx P Q l a w k e => ?_) l3 ?_ p (fun r v F2 H2 l2 s2 rv p => k r v F2 ρ' H2 l2 (s.trans s2) kp rv p) upd_same
  · have kb := ka_seq (K := B.K) (kb_list (pyOf dx)) (kb_tuple (pyOf dx))
    have eb : (isL (pyOf dx) || isT (pyOf dx)) = isLT dx := by cases dx <;> rfl
    rw [eb] at kb
    exact ⟨_, _, _, _, _, _, rfl, e, .cons (.ty _) (.cons (.ty _) .nil), ty_of_rv l.sub a w.1, kb, k (.dat _) _ F H l (Same.refl _) (.bl _) w.2⟩
  · cases r with
    | dat d => exact rv
    | new ds => exact rv
    | var i => exact rv
/-! ### list(range(..)), tuple(range(..)) -/
def rgD (a b : Int) : List D := (List.range (b - a).toNat).map fun i => D.int (a + (i : Nat))
theorem rvA_rg {K : PySem.W.Frag} {hd : Option Addr} {F : Hp} (a b : Int) : RvA K hd F (rgV a b) (rgD a b) := by
  unfold rgV rgD
  have h : ∀ l : List Nat, RvA K hd F (l.map fun i => V.int (a + (i : Nat))) (l.map fun i => D.int (a + (i : Nat))) := by
    intro l
    induction l with
    | nil => exact .nil
    | cons x l ih => exact .cons (.int _) ih
  exact h _
abbrev DRT := En → (Int → Int → En → Prop) → Prop
structure DRg (X : Cx) (B : Bs) (e : Expr) (tR : L2.St → Hp → (Int → Int → Hp → Prop) → Prop) (t : DRT) : Prop where
  pr : PRg X e tR
  sim : ∀ (F : Hp) (ρ : En) (σ : L2.St) (H : Hp) (P : Int → Int → En → Prop) (Q : Int → Int → Hp → Prop), Rel B F ρ σ H → t ρ P →
    (∀ i j F' ρ' H', Rel B F' ρ' σ H' → Same F F' → Kp ρ ρ' → P i j ρ' → Q i j H') → tR σ H Q
def dRg1 (ta : DT) : DRT := fun ρ P => ta ρ fun r ρ1 => match r with
  | .dat (.int n) => P 0 n ρ1
  | _ => False
def dRg2 (ta tb : DT) : DRT := fun ρ P => ta ρ fun r ρ1 => tb ρ1 fun r2 ρ2 => match r, r2 with
  | .dat (.int m), .dat (.int n) => P m n ρ2
  | _, _ => False
theorem drg_1 {p : Pos} (hg : Gl X "range") (hm : X.mg "range" = none) (h : DE X B a tA ta) (na : starEach [a] X.env = (false, eval a X.env) :: starEach [] X.env := by rfl) : DRg X B (.Call (.Name "range" p) [a] [] pos) (tRg1 tA) (dRg1 ta) := by
  refine ⟨prg_1 hg hm h.pe na, fun F ρ σ H P Q l w k => h.sim F ρ σ H _ _ l w fun r v F' ρ' H' l' s kp rv p => ?_⟩
  match r, p with
  | .dat (.int n), p =>
    cases rv
    exact ⟨n, rfl, k 0 n F' ρ' H' l' s kp p⟩
theorem drg_2 {p : Pos} (hg : Gl X "range") (hm : X.mg "range" = none) (h : DE X B a tA ta) (g : DE X B b tB tb) (na : starEach [a, b] X.env = (false, eval a X.env) :: starEach [b] X.env := by rfl)
    (nb : starEach [b] X.env = (false, eval b X.env) :: starEach [] X.env := by rfl) (hp : (backTo pos (starEach [b] X.env)).any (·.1) = false := by rfl) : DRg X B (.Call (.Name "range" p) [a, b] [] pos) (tRg2 tA tB) (dRg2 ta tb) := by
  refine ⟨prg_2 hg hm h.pe g.pe na nb hp, fun F ρ σ H P Q l w k => two h.sim g.sim F ρ σ H _ _ l w fun r1 r2 x y F' ρ' H' l' s kp rv1 rv2 p => ?_⟩
  match r1, r2, p with
  | .dat (.int m), .dat (.int n), p =>
    cases rv1
    cases rv2
    exact ⟨m, n, rfl, rfl, k m n F' ρ' H' l' s kp p⟩
variable {tR : L2.St → Hp → (Int → Int → Hp → Prop) → Prop} {tr : DRT}
def dListRg (t : DRT) : DT := fun ρ P => t ρ fun i j ρ1 => RgOk i j ∧ P (.new (rgD i j)) ρ1
def dTupRg (t : DRT) : DT := fun ρ P => t ρ fun i j ρ1 => RgOk i j ∧ P (.dat (.tup (rgD i j))) ρ1
theorem de_listRg {p : Pos} (hc : X.calm = true) (hg : Gl X "list") (hm : X.mg "list" = none) (h : DRg X B e tR tr) (na : starEach [e] X.env = (false, eval e X.env) :: starEach [] X.env := by rfl) : DE X B (.Call (.Name "list" p) [e] [] pos) (tLstRg tR) (dListRg tr) := by
  refine ⟨pe_listRg hc hg hm h.pr na, fun F ρ σ H P Q l w k => h.sim F ρ σ H _ _ l w fun i j F' ρ' H' l' s kp p => ⟨p.1, fun q nq => ?_⟩⟩
  obtain ⟨l3, n3⟩ := l'.newL nq (rvA_rg i j)
  exact k (.new _) _ F' ρ' _ l3 s kp n3 p.2
theorem de_tupRg {p : Pos} (hc : X.calm = true) (hg : Gl X "tuple") (hm : X.mg "tuple" = none) (h : DRg X B e tR tr) (na : starEach [e] X.env = (false, eval e X.env) :: starEach [] X.env := by rfl) : DE X B (.Call (.Name "tuple" p) [e] [] pos) (tTupRg tR) (dTupRg tr) := by
  refine ⟨pe_tupRg hc hg hm h.pr na, fun F ρ σ H P Q l w k => h.sim F ρ σ H _ _ l w fun i j F' ρ' H' l' s kp p => ⟨p.1, fun q nq => ?_⟩⟩
  obtain ⟨l3, s3⟩ := l'.newF (u := .tup (rgV i j)) nq
  exact k (.dat _) _ _ ρ' _ l3 (s.trans s3) kp (Rv.tup (SqT.of upd_same) (rvA_rg i j)) p.2
/-! ### slices -/
abbrev DOT := En → (Option Int → En → Prop) → Prop
structure DO (X : Cx) (B : Bs) (e : Option Expr) (tO : TO) (t : DOT) : Prop where
  po : PO X e tO
  sim : ∀ (F : Hp) (ρ : En) (σ : L2.St) (H : Hp) (P : Option Int → En → Prop) (Q : Option Int → Hp → Prop), Rel B F ρ σ H → t ρ P →
    (∀ i F' ρ' H', Rel B F' ρ' σ H' → Same F F' → Kp ρ ρ' → P i ρ' → Q i H') → tO σ H Q
def dONone : DOT := fun ρ P => P none ρ
def dOSome (t : DT) : DOT := fun ρ P => t ρ fun r ρ1 => match r with
  | .dat (.int n) => P (some n) ρ1
  | _ => False
theorem do_none : DO X B none tNoPart dONone := ⟨po_none, fun F ρ σ H P Q l w k => k none F ρ H l (Same.refl _) Kp.refl w⟩
theorem do_some (h : DE X B e tA ta) : DO X B (some e) (tPart tA) (dOSome ta) := by
  refine ⟨po_some h.pe, fun F ρ σ H P Q l w k => h.sim F ρ σ H _ _ l w fun r v F' ρ' H' l' s kp rv p => ?_⟩
  match r, p with
  | .dat (.int n), p =>
    cases rv
    exact ⟨n, rfl, k (some n) F' ρ' H' l' s kp p⟩
def cutD (xs : List D) (lo hi : Option Int) : List D := (xs.drop (HT.sIx xs.length 0 lo)).take (HT.sIx xs.length xs.length hi - HT.sIx xs.length 0 lo)
def rSlQ (K : PySem.W.Frag) : V → Option Int → Option Int → Hp → VK → Prop := fun x lo hi H Q => rSlL K x lo hi H Q ∨ rSlA K x lo hi H Q
theorem ksl_seq (K : PySem.W.Frag) (h : X.K = K := by rfl) : L2.SlR X (rSlQ K) := L2.SlR.or (ksl_list K h) (ksl_tup K h)
def dSlv (lo hi : Option Int) : D → (R → Prop) → Prop
  | .lst ds, P => P (.new (cutD ds lo hi))
  | .tup ds, P => P (.dat (.tup (cutD ds lo hi)))
  | .tpx ds, P => P (.dat (.tup (cutD ds lo hi)))
  | _, _ => False
theorem RvA.cut {K : PySem.W.Frag} {hd : Option Addr} {F : Hp} {ds : List D} {vs : List V} (h : RvA K hd F vs ds) (lo hi : Option Int) : RvA K hd F (cutV vs lo hi) (cutD ds lo hi) := by
  unfold cutV cutD
  rw [h.len]
  exact (h.drop _).take _
theorem und_sl {lo hi : Option Int} : UnD B (fun x H Q => rSlQ B.K x lo hi H Q) (dSlv lo hi) := by
  intro F ρ σ H x dx P Q l a w k
  have tupc : ∀ {ds : List D} (a0 : Addr) (xs : List V), SqT B.K F a0 xs → RvA B.K B.hd F xs ds → P (.dat (.tup (cutD ds lo hi))) → rSlQ B.K (.ref a0) lo hi H Q := fun {ds} a0 xs a1 a2 w => by
    refine .inr ⟨_, _, rfl, Same.sqT l.sub a1, fun e => ?_, fun _ p np => ?_⟩
    · have e2 : cutD ds lo hi = ds := by
        unfold cutD
        rw [← a2.len, e.1, e.2, List.drop_zero, Nat.sub_zero, a2.len, List.take_length]
      rw [e2] at w
      exact k (.dat _) _ F H l (Same.refl _) (Rv.tup a1 a2) w
    · obtain ⟨l3, s3⟩ := l.newF (u := .tup (cutV xs lo hi)) np
      exact k (.dat _) _ _ _ l3 s3 (Rv.tup (SqT.of upd_same) ((a2.cut lo hi).mono s3)) w
  cases dx <;> first | exact w.elim | skip
  · cases a with
    | lst a1 a2 =>
      refine .inl ⟨_, _, rfl, .of (l.sub _ _ a1), fun p np => ?_⟩
      obtain ⟨l3, n3⟩ := l.newL np (a2.cut lo hi)
      exact k (.new _) _ F _ l3 (Same.refl _) n3 w
  · rename_i ds
    cases a with
    | @tup a0 xs _ a1 a2 => exact tupc _ _ a1 a2 w
  · rename_i ds
    cases a with
    | tpx a1 e1 a2 => exact tupc _ _ (.inl (.inr ⟨_, a1⟩)) a2 w
def dSl (ta : DT) (tl th : DOT) : DT := fun ρ P => ta ρ fun r ρ1 => tl ρ1 fun lo ρ2 => th ρ2 fun hi ρ3 => dSlv lo hi (vl ρ3 r) fun x => bOk [r] x ∧ P x ρ3
theorem de_slice (K : PySem.W.Frag) {lo hi : Option Expr} {tL tH : TO} {tl th : DOT} {p2 : Pos} (h : DE X B e tA ta) (hl : DO X B lo tL tl) (hh : DO X B hi tH th) (hK : X.K = B.K := by rfl) (hB : B.K = K := by rfl) : DE X B (.Subscript e (.Slice lo hi none p2) pos) (tSl (rSlQ K) tA tL tH) (dSl ta tl th) := by
  subst hB
  refine ⟨pe_slice (ksl_seq B.K hK) h.pe hl.po hh.po, fun F ρ σ H P Q l w k => h.sim.frz F ρ σ H _ _ l w fun r v F1 ρ1 H1 l1 s1 k1 rv p => ?_⟩
  refine hl.sim F1 ρ1 σ H1 _ _ l1 p fun i F2 ρ2 H2 l2 s2 k2 p => ?_
  refine hh.sim F2 ρ2 σ H2 _ _ l2 p fun j F3 ρ3 H3 l3 s3 k3 p => ?_
  exact und_run und_sl l3 (RvR.mono rv (s2.trans s3) (k2.trans k3)) p fun r v F' H' l' s rv p => k r v F' ρ3 H' l' (s1.trans (s2.trans (s3.trans s))) (k1.trans (k2.trans k3)) rv p
end
end Z

set_option Elab.async false
set_option linter.all false
set_option maxRecDepth 100000
namespace Z
open PySem L2
/-! ## names change -/
section
variable {B : Bs} {F F' H H' : Hp} {ρ ρ' : En} {σ : L2.St}
theorem Rel.frzAt (r : Rel B F ρ σ H) {p : Addr} {u : HO} (e : H p = some u) (n : F p = none) (n0 : B.H0 p = none) (ne : ∀ (i : Nat) (o : OV), ρ[i]? = some (some o) → o.isOwn = true → σ[i]? ≠ some (some (V.ref p))) : Rel B (upd F p u) ρ σ H ∧ Same F (upd F p u) := by
  have s : Same F (upd F p u) := same_new n
  refine ⟨⟨r.len, fun b o q => ?_, r.fro.trans s, fun b hb => ?_, r.kept, fun q z => ?_, fun i o z => ?_, r.ap⟩, s⟩
  · by_cases hb : b = p
    · subst hb
      rw [upd_same] at q
      cases q
      exact e
    · rw [upd_ne hb] at q
      exact r.sub _ _ q
  · by_cases hb' : b = p
    · subst hb'
      exact .inr n0
    · rw [upd_ne hb'] at hb
      exact r.new b hb
  · obtain ⟨h1, h2, h3⟩ := r.hnd q z
    refine ⟨h1, ?_, h3⟩
    rw [upd_ne (fun w => h3 (by rw [w]; exact n0))]
    exact h2
  · obtain ⟨v, e1, h⟩ := r.var i o z
    refine ⟨v, e1, h.mono s fun q u' ev w hq => ⟨hq, ?_⟩⟩
    subst ev
    obtain ⟨p', u', e', _, n', _⟩ := h.own w
    cases e'
    rw [upd_ne (fun w2 => ne i o z w (by rw [e1, w2]))]
    exact n'
theorem get_set {α : Type} {l : List α} {i j : Nat} {x y : α} (h : (l.set i x)[j]? = some y) : (j = i ∧ y = x ∧ i < l.length) ∨ (j ≠ i ∧ l[j]? = some y) := by
  by_cases e : j = i
  · subst e
    by_cases hl : j < l.length
    · rw [List.getElem?_set_self hl] at h
      exact .inl ⟨rfl, (Option.some.inj h).symm, hl⟩
    · rw [List.getElem?_eq_none (by rw [List.length_set]; omega)] at h
      cases h
  · rw [List.getElem?_set_ne (Ne.symm e)] at h
    exact .inr ⟨e, h⟩
/-- a slot's new value -/
theorem Rel.set (r : Rel B F ρ σ H) {i : Nat} {v : V} {o : OV} (h : RvO B F H v o) (ne : o.isOwn = true → ∀ (j : Nat) (o' : OV), ρ[j]? = some (some o') → o'.isOwn = true → σ[j]? ≠ some (some v)) : Rel B F (ρ.set i (some o)) (σ.set i (some v)) H := by
  refine ⟨by rw [List.length_set, List.length_set]; exact r.len, r.sub, r.fro, r.new, r.kept, r.hnd, fun j o' e => ?_, fun j k o1 o2 w e1 e2 w1 w2 s1 s2 => ?_⟩
  · rcases get_set e with ⟨rfl, e', hl⟩ | ⟨hj, e'⟩
    · cases e'
      exact ⟨v, by rw [List.getElem?_set_self (by rw [← r.len]; exact hl)], h⟩
    · obtain ⟨w, s1, h1⟩ := r.var j o' e'
      exact ⟨w, by rw [List.getElem?_set_ne (Ne.symm hj)]; exact s1, h1⟩
  · rcases get_set e1 with ⟨rfl, q1, l1⟩ | ⟨n1, q1⟩ <;> rcases get_set e2 with ⟨rfl, q2, l2⟩ | ⟨n2, q2⟩
    · rfl
    · cases q1
      rw [List.getElem?_set_self (by rw [← r.len]; exact l1)] at s1
      cases s1
      rw [List.getElem?_set_ne (Ne.symm n2)] at s2
      exact absurd s2 (ne w1 k o2 q2 w2)
    · cases q2
      rw [List.getElem?_set_self (by rw [← r.len]; exact l2)] at s2
      cases s2
      rw [List.getElem?_set_ne (Ne.symm n1)] at s1
      exact absurd s1 (ne w2 j o1 q1 w1)
    · rw [List.getElem?_set_ne (Ne.symm n1)] at s1
      rw [List.getElem?_set_ne (Ne.symm n2)] at s2
      exact r.ap j k o1 o2 w q1 q2 w1 w2 s1 s2
/-- a slot is looked at otherwise (no store) -/
theorem Rel.see (r : Rel B F ρ σ H) {i : Nat} {v : V} {d : D} (e : σ[i]? = some (some v)) (h : Rv B.K B.hd F v d) : Rel B F (ρ.set i (some (.dat d))) σ H := by
  have q := r.set (i := i) (o := .dat d) h (fun z => by cases z)
  have e2 : σ.set i (some v) = σ := by
    refine List.ext_getElem? fun j => ?_
    by_cases hj : j = i
    · subst hj
      have hl := (List.getElem?_eq_some_iff.mp e).1
      rw [List.getElem?_set_self hl, e]
    · rw [List.getElem?_set_ne (Ne.symm hj)]
  rw [e2] at q
  exact q
theorem Rel.drop (r : Rel B F ρ σ H) (i : Nat) : Rel B F (ρ.set i none) σ H := by
  refine ⟨by rw [List.length_set]; exact r.len, r.sub, r.fro, r.new, r.kept, r.hnd, fun j o' e => ?_, fun j k o1 o2 w e1 e2 w1 w2 s1 s2 => ?_⟩
  · rcases get_set e with ⟨rfl, e', hl⟩ | ⟨hj, e'⟩
    · cases e'
    · exact r.var j o' e'
  · rcases get_set e1 with ⟨rfl, q1, l1⟩ | ⟨n1, q1⟩
    · cases q1
    · rcases get_set e2 with ⟨rfl, q2, l2⟩ | ⟨n2, q2⟩
      · cases q2
      · exact r.ap j k o1 o2 w q1 q2 w1 w2 s1 s2
/-- what a name has is given away: its list is frozen -/
def mvE (ρ : En) (r : R) : En := match r with
  | .var i => ρ.set i (some (.dat (vl ρ r)))
  | _ => ρ
theorem set_none_some {α : Type} {l : List α} {i : Nat} {x y : α} : (l.set i x).set i y = l.set i y := List.set_set x
theorem Kp.mv {r : R} : Kp ρ (mvE ρ r) := by
  cases r with
  | dat d => exact Kp.refl
  | new ds => exact Kp.refl
  | var i =>
    intro j o e
    by_cases h : j = i
    · subst h
      exact ⟨_, List.getElem?_set_self (List.getElem?_eq_some_iff.mp e).1⟩
    · refine ⟨o, ?_⟩
      show (ρ.set i _)[j]? = _
      rw [List.getElem?_set_ne (Ne.symm h)]
      exact e
theorem Rel.mv (l : Rel B F ρ σ H) {v : V} {r : R} (h : RvR B F ρ σ H v (Z.fz r)) : ∃ F', Same F F' ∧ Rel B F' (mvE ρ r) σ H ∧ Rv B.K B.hd F' v (vl ρ r) := by
  cases r with
  | dat d => exact ⟨F, Same.refl _, l, h⟩
  | new ds => exact ⟨F, Same.refl _, l, h⟩
  | var i =>
    obtain ⟨es, o, e⟩ := h
    have ev : vl ρ (.var i) = o.frz := by
      show (match ρ[i]? with | some (some o) => o.frz | _ => D.non) = _
      rw [e]
    show ∃ F', Same F F' ∧ Rel B F' (ρ.set i (some (.dat (vl ρ (.var i))))) σ H ∧ Rv B.K B.hd F' v (vl ρ (.var i))
    rw [ev]
    obtain ⟨v', e1, hv⟩ := l.var i o e
    rw [es] at e1
    cases e1
    cases o with
    | dat d => exact ⟨F, Same.refl _, l.see es hv, hv⟩
    | own ds =>
      obtain ⟨p, vs, rfl, h1, h2, h3, h4⟩ := hv
      obtain ⟨l2, s2⟩ := (l.drop i).frzAt h1 h3 h4 fun j o' ej w z => by
        rcases get_set ej with ⟨rfl, q, _⟩ | ⟨hj, q⟩
        · cases q
        · exact hj (l.ap j i o' _ _ q e w rfl z es)
      have hr : Rv B.K B.hd (upd F p (.lst vs)) (.ref p) (.lst ds) := .lst upd_same (h2.mono s2)
      have := l2.see es hr
      rw [set_none_some] at this
      exact ⟨_, s2, this, hr⟩
    | dic ks ds =>
      obtain ⟨p, kv, rfl, h1, h1', h2, h3, h4⟩ := hv
      obtain ⟨l2, s2⟩ := (l.drop i).frzAt h1 h3 h4 fun j o' ej w z => by
        rcases get_set ej with ⟨rfl, q, _⟩ | ⟨hj, q⟩
        · cases q
        · exact hj (l.ap j i o' _ _ q e w rfl z es)
      have hr : Rv B.K B.hd (upd F p (.dK kv)) (.ref p) (.dct ks ds) := .dct upd_same h1' (h2.mono s2)
      have := l2.see es hr
      rw [set_none_some] at this
      exact ⟨_, s2, this, hr⟩
/-- an object that nothing knows of changes -/
theorem Rel.upd (r : Rel B F ρ σ H) {p : Addr} {u : HO} (n : F p = none) (n0 : B.H0 p = none) (ne : ∀ (i : Nat) (o : OV), ρ[i]? = some (some o) → o.isOwn = true → σ[i]? ≠ some (some (V.ref p))) : Rel B F ρ σ (L2.upd H p u) := by
  have off : ∀ b o, F b = some o → b ≠ p := fun b o e z => by rw [z, n] at e; cases e
  refine ⟨r.len, fun b o e => by rw [upd_ne (off b o e)]; exact r.sub _ _ e, r.fro, r.new, fun b o e w => ?_, fun q e => ?_, fun i o e => ?_, r.ap⟩
  · rw [upd_ne (fun z => by rw [z, n0] at e; cases e)]
    exact r.kept b o e w
  · obtain ⟨h1, h2, h3⟩ := r.hnd q e
    refine ⟨?_, h2, h3⟩
    exact h1.off (fun z => h3 (by rw [← z]; exact n0)) fun z => B.a0 q e (by rw [← z]; exact n0)
  · obtain ⟨v, e1, h⟩ := r.var i o e
    refine ⟨v, e1, h.mono (Same.refl _) fun q u' ev w hq => ⟨?_, ?_⟩⟩
    · subst ev
      rw [upd_ne (fun z => ne i o e w (by rw [e1, z]))]
      exact hq
    · subst ev
      obtain ⟨p', u', e', _, n', _⟩ := h.own w
      cases e'
      exact n'
end
/-! ## what a for, a comprehension walks -/
structure WalkD (B : Bs) (J : It) (ds : List D) (F : Hp) : Prop where
  ex : ∃ (G : Hp → Prop) (Y : Nat → Hp → V → Hp → Prop), Walk J ds.length G Y ∧ (∀ F2 ρ σ H2, Rel B F2 ρ σ H2 → Same F F2 → G H2) ∧
    ∀ i F2 ρ σ H2 x H3, Rel B F2 ρ σ H2 → Same F F2 → i < ds.length → Y i H2 x H3 → ∃ d F3, ds[i]? = some d ∧ Rel B F3 ρ σ H3 ∧ Same F2 F3 ∧ Rv B.K B.hd F3 x d ∧ Same H2 H3 ∧ ∀ b, F3 b ≠ none → F2 b ≠ none ∨ H2 b = none
abbrev DIT := En → (List D → En → Prop) → Prop
def SimI (B : Bs) (wi : TI) (t : DIT) : Prop := ∀ (F : Hp) (ρ : En) (σ : L2.St) (H : Hp) (P : List D → En → Prop) (R : It → Hp → Prop), Rel B F ρ σ H → t ρ P →
    (∀ J ds F' ρ' H', Rel B F' ρ' σ H' → Same F F' → Kp ρ ρ' → WalkD B J ds F' → P ds ρ' → R J H') → wi σ H R
structure DI (X : Cx) (B : Bs) (tg iter : Expr) (wi : TI) (t : DIT) : Prop where
  pi : PI X tg iter wi
  sim : SimI B wi t
def dSeq (ta : DT) : DIT := fun ρ P => ta ρ fun r ρ1 => match seqOfD (vl ρ1 r) with
  | some ds => P ds (mvE ρ1 r)
  | none => False
section
variable {X : Cx} {B : Bs} {tg e e2 : Expr} {tE tE2 : TE} {te te2 : DT}
theorem walkD_list {F : Hp} {a : Addr} {vs : List V} {ds : List D} (h : F a = some (.lst vs)) (ha : RvA B.K B.hd F vs ds) : WalkD B (Itl B.K a) ds F := by
  refine ⟨_, _, by rw [← ha.len]; exact walk_list (K := B.K) (a := a) (xs := vs), fun F2 ρ σ H2 l s => SqL.of (l.sub _ _ (s _ _ h)), fun i F2 ρ σ H2 x H3 l s hi y => ?_⟩
  obtain ⟨rfl, e⟩ := y
  obtain ⟨d, e1, e2⟩ := ha.get e
  exact ⟨d, F2, e1, l, Same.refl _, e2.mono s, Same.refl _, fun b hb => .inl hb⟩
theorem walkD_tup {F : Hp} {a : Addr} {vs : List V} {ds : List D} (h : SqT B.K F a vs) (ha : RvA B.K B.hd F vs ds) : WalkD B (Itt B.K a) ds F := by
  refine ⟨_, _, by rw [← ha.len]; exact walk_tup (K := B.K) (a := a) (xs := vs), fun F2 ρ σ H2 l s => Same.sqT l.sub (Same.sqT s h), fun i F2 ρ σ H2 x H3 l s hi y => ?_⟩
  obtain ⟨rfl, e⟩ := y
  obtain ⟨d, e1, e2⟩ := ha.get e
  exact ⟨d, F2, e1, l, Same.refl _, e2.mono s, Same.refl _, fun b hb => .inl hb⟩
/-- a list or a tuple is walked, whichever comes -/
def iSeqB (K : PySem.W.Frag) (tl : TE) : TI := fun σ H R => tl σ H fun x H1 => (∃ a xs, x = .ref a ∧ SqL K H1 a xs ∧ R (Itl K a) H1) ∨ (∃ a xs, x = .ref a ∧ SqT K H1 a xs ∧ R (Itt K a) H1)
theorem pi_seqB {l : Expr} {tl : TE} (K : PySem.W.Frag) (hl : PE X l tl) (hK : X.K = K) : PI X tg l (iSeqB K tl) := by
  subst hK
  constructor
  intro pins s σ H R J hw
  apply thn (hl.run pins s σ H _ J hw)
  rintro v s1 ⟨x, H1, J1, rv, ⟨a, xs, rfl, hq, q⟩ | ⟨a, xs, rfl, hq, q⟩⟩
  · cases rv
    obtain ⟨its, vv, pl, _⟩ := J1.list hq
    apply wpAny_pyIter_list pl.isList
    exact ⟨_, [s1.heap.objs.size], _, _, H1, rfl, J1.kept (t' := s1.toks) (fun _ _ e => Heap.get?_push_of_some _ e), turn_list a _, ⟨_, Heap.get?_push_size _ rfl, rfl, rfl⟩,
      fun b hb => by rw [List.mem_singleton.mp hb]; exact J1.fpOk (Nat.le_refl _) (J1.hok.fresh (Nat.le_refl _)), q⟩
  · cases rv
    obtain ⟨its, vv, pl, _⟩ := J1.tuple hq
    apply wpAny_pyIter_tuple (show s1.heap.IsTuple a its.toArray from pl)
    exact ⟨_, [s1.heap.objs.size], _, _, H1, rfl, J1.kept (t' := s1.toks) (fun _ _ e => Heap.get?_push_of_some _ e), turn_tuple a _, ⟨_, Heap.get?_push_size _ rfl, rfl, rfl⟩,
      fun b hb => by rw [List.mem_singleton.mp hb]; exact J1.fpOk (Nat.le_refl _) (J1.hok.fresh (Nat.le_refl _)), q⟩
theorem di_seq (K : PySem.W.Frag) (h : DE X B e tE te) (hK : X.K = B.K := by rfl) (hB : B.K = K := by rfl) : DI X B tg e (iSeqB K tE) (dSeq te) := by
  subst hB
  refine ⟨pi_seqB B.K h.pe hK, fun F ρ σ H P R l w k => h.sim.frz F ρ σ H _ _ l w fun r v F' ρ' H' l' s kp rv p => ?_⟩
  obtain ⟨F2, s2, l2, v2⟩ := l'.mv rv
  cases e1 : seqOfD (vl ρ' r) with
  | none => rw [e1] at p; exact p.elim
  | some ds =>
    rw [e1] at p
    cases ev : vl ρ' r <;> rw [ev] at e1 v2 <;> first | cases e1 | skip
    · cases v2 with
      | lst a1 a2 => exact .inl ⟨_, _, rfl, .of (l2.sub _ _ a1), k _ _ F2 _ H' l2 (s.trans s2) (kp.trans Kp.mv) (walkD_list a1 a2) p⟩
    · cases v2 with
      | tup a1 a2 => exact .inr ⟨_, _, rfl, Same.sqT l2.sub a1, k _ _ F2 _ H' l2 (s.trans s2) (kp.trans Kp.mv) (walkD_tup a1 a2) p⟩
    · cases v2 with
      | tpx a1 e9 a2 => exact .inr ⟨_, _, rfl, .inl (.inr ⟨_, l2.sub _ _ a1⟩), k _ _ F2 _ H' l2 (s.trans s2) (kp.trans Kp.mv) (walkD_tup (.inl (.inr ⟨_, a1⟩)) a2) p⟩
/-! ### range -/
theorem rg0 (n : Int) : rgD 0 n = rgD 0 (0 + (n.toNat : Nat)) := by unfold rgD; rw [show (n - 0).toNat = ((0 : Int) + (n.toNat : Nat) - 0).toNat by omega]
theorem walkD_range {F : Hp} {lo hi : Int} {n : Nat} (e : n = (hi - lo).toNat) : WalkD B (Itr lo n) (rgD lo hi) F := by
  have hlen : (rgD lo hi).length = n := by unfold rgD; rw [List.length_map, List.length_range, e]
  refine ⟨_, _, by rw [hlen]; exact walk_range (lo := lo) (n := n), fun _ _ _ _ _ _ => trivial, fun i F2 ρ σ H2 x H3 l s hi y => ?_⟩
  obtain ⟨rfl, rfl⟩ := y
  rw [hlen] at hi
  refine ⟨.int (lo + i), F2, ?_, l, Same.refl _, .int _, Same.refl _, fun b hb => .inl hb⟩
  unfold rgD
  rw [List.getElem?_map, List.getElem?_range (by omega)]
  rfl
def R62 (i : Int) : Prop := -(2 ^ 62) ≤ i ∧ i < 2 ^ 62
def dRange (t : DRT) : DIT := fun ρ P => t ρ fun i j ρ1 => R62 i ∧ R62 j ∧ P (rgD i j) ρ1
theorem di_range1 {p pos : Pos} (hg : Gl X "range") (hm : X.mg "range" = none) (h : DE X B e tE te) (h1 : starEach [e] X.env = (false, eval e X.env) :: starEach [] X.env := by rfl) (hs : starEach [e] X.env = [(false, eval e X.env)] := by rfl) :
    DI X B tg (.Call (.Name "range" p) [e] [] pos) (iRng1 (tCons tE tNil)) (dRange (dRg1 te)) := by
  refine ⟨pi_range1 hg hm (pa_cons h.pe pa_nil h1) hs, fun F ρ σ H P R l w k => h.sim F ρ σ H _ _ l w fun r v F' ρ' H' l' s kp rv p => ?_⟩
  match r, p with
  | .dat (.int n), p =>
    cases rv
    exact ⟨n, rfl, p.2.1.1, p.2.1.2, k _ _ F' ρ' H' l' s kp (walkD_range (by omega)) p.2.2⟩
theorem di_range2 {p pos : Pos} (hg : Gl X "range") (hm : X.mg "range" = none) (h : DE X B e tE te) (g : DE X B e2 tE2 te2) (h1 : starEach [e, e2] X.env = (false, eval e X.env) :: starEach [e2] X.env := by rfl) (h2 : starEach [e2] X.env = (false, eval e2 X.env) :: starEach [] X.env := by rfl)
    (hs : starEach [e, e2] X.env = [(false, eval e X.env), (false, eval e2 X.env)] := by rfl) (hs2 : starEach [e2] X.env = [(false, eval e2 X.env)] := by rfl) :
    DI X B tg (.Call (.Name "range" p) [e, e2] [] pos) (iRng2 (tCons tE (tCons tE2 tNil))) (dRange (dRg2 te te2)) := by
  refine ⟨pi_range2 hg hm (pa_cons h.pe (pa_cons g.pe pa_nil h2) h1) hs hs2, fun F ρ σ H P R l w k => two h.sim g.sim F ρ σ H _ _ l w fun r1 r2 x y F' ρ' H' l' s kp rv1 rv2 p => ?_⟩
  match r1, r2, p with
  | .dat (.int m), .dat (.int n), p =>
    cases rv1
    cases rv2
    exact ⟨m, n, rfl, ⟨p.1.1, p.1.2, p.2.1.1, p.2.1.2⟩, k _ _ F' ρ' H' l' s kp (walkD_range rfl) p.2.2⟩
/-! ### enumerate -/
def enD (ds : List D) : List D := (List.range ds.length).map fun i => .tup [.int (i : Nat), ds.getD i .non]
theorem enD_len (ds : List D) : (enD ds).length = ds.length := by unfold enD; rw [List.length_map, List.length_range]
theorem enD_get {ds : List D} {i : Nat} {d : D} (h : ds[i]? = some d) : (enD ds)[i]? = some (.tup [.int (i : Nat), d]) := by
  have hl := (List.getElem?_eq_some_iff.mp h).1
  unfold enD
  rw [List.getElem?_map, List.getElem?_range hl]
  show some (D.tup [.int (i : Nat), ds.getD i .non]) = _
  rw [List.getD_eq_getElem?_getD, h]
  rfl
theorem walkD_pair {F : Hp} {J : It} {G : Hp → Prop} {f : Nat → Option V} {vs : List V} {ds es : List D} (he : es.length = ds.length) (w : Walk J vs.length G (YPair f (fun i => vs[i]?))) (hG : ∀ F2 ρ σ H2, Rel B F2 ρ σ H2 → Same F F2 → G H2) (ha : RvA B.K B.hd F vs ds)
    (hf : ∀ i x d, f i = some x → ds[i]? = some d → ∃ dx, es[i]? = some (.tup [dx, d]) ∧ Rv B.K B.hd F x dx) : WalkD B J es F := by
  refine ⟨G, _, by rw [he, ← ha.len]; exact w, hG, fun i F2 ρ σ H2 x H3 l s hi y => ?_⟩
  obtain ⟨T, x1, y1, rfl, hT, rfl, e1, e2⟩ := y
  obtain ⟨d, e3, e4⟩ := ha.get e2
  obtain ⟨dx, e5, e6⟩ := hf i x1 d e1 e3
  obtain ⟨l3, s3⟩ := l.newF (u := .tup [x1, y1]) hT
  refine ⟨_, _, e5, l3, s3, Rv.tup (SqT.of upd_same) (.cons ((e6.mono s).mono s3) (.cons ((e4.mono s).mono s3) .nil)), same_new hT, fun b hb => ?_⟩
  by_cases e : b = T
  · subst e
    exact .inr hT
  · rw [upd_ne e] at hb
    exact .inl hb
def dEnum (ta : DT) : DIT := fun ρ P => (ta ρ fun r ρ1 => ∃ ds, vl ρ1 r = .lst ds ∧ P (enD ds) (mvE ρ1 r)) ∨ (ta ρ fun r ρ1 => ∃ ds, (vl ρ1 r = .tup ds ∨ vl ρ1 r = .tpx ds) ∧ P (enD ds) (mvE ρ1 r))
theorem di_enum (K : PySem.W.Frag) {p pos tpos : Pos} {elts : List Expr} {kk : Nat} (hg : Gl X "enumerate") (hm : X.mg "enumerate" = none) (h : DE X B e tE te) (hK : X.K = B.K := by rfl) (hB : B.K = K := by rfl) (h1 : starEach [e] X.env = (false, eval e X.env) :: starEach [] X.env := by rfl) (hs : starEach [e] X.env = [(false, eval e X.env)] := by rfl) :
    DI X B (.Tuple elts kk tpos) (.Call (.Name "enumerate" p) [e] [] pos) (EnA K (tCons tE tNil)) (dEnum te) := by
  subst hB
  refine ⟨by rw [← hK]; exact pi_enumA hg hm (pa_cons h.pe pa_nil h1) hs, fun F ρ σ H P R l w k => ⟨?_⟩⟩
  rcases w with w | w
  · refine .inl (h.sim.frz F ρ σ H _ _ l w fun r v F' ρ' H' l' s kp rv p => ?_)
    obtain ⟨F2, s2, l2, v2⟩ := l'.mv rv
    obtain ⟨ds, ev, p⟩ := p
    rw [ev] at v2
    cases v2 with
    | lst a1 a2 =>
      exact ⟨_, _, rfl, .of (l2.sub _ _ a1), k _ _ F2 _ H' l2 (s.trans s2) (kp.trans Kp.mv) (walkD_pair (enD_len ds) (walk_enum (K := B.K)) (fun F3 ρ3 σ3 H3 l3 s3 => SqL.of (l3.sub _ _ (s3 _ _ a1))) a2 fun i x d e1 e2 => by
        cases e1
        exact ⟨_, enD_get e2, .int _⟩) p⟩
  · refine .inr (h.sim.frz F ρ σ H _ _ l w fun r v F' ρ' H' l' s kp rv p => ?_)
    obtain ⟨F2, s2, l2, v2⟩ := l'.mv rv
    obtain ⟨ds, ev, p⟩ := p
    have fin : ∀ a xs, v = .ref a → SqT B.K F2 a xs → RvA B.K B.hd F2 xs ds → ∃ a xs, [v] = [V.ref a] ∧ SqT B.K H' a xs ∧ R (ItU B.K a) H' := fun a xs ev a1 a2 =>
      ⟨a, xs, by rw [ev], Same.sqT l2.sub a1, k _ _ F2 _ H' l2 (s.trans s2) (kp.trans Kp.mv) (walkD_pair (enD_len ds) (walk_enumT (K := B.K)) (fun F3 ρ3 σ3 H3 l3 s3 => Same.sqT l3.sub (Same.sqT s3 a1)) a2 fun i x d e1 e2 => by
        cases e1
        exact ⟨_, enD_get e2, .int _⟩) p⟩
    rcases ev with ev | ev
    · rw [ev] at v2
      cases v2 with
      | tup a1 a2 => exact fin _ _ rfl a1 a2
    · rw [ev] at v2
      cases v2 with
      | tpx a1 e9 a2 => exact fin _ _ rfl (.inl (.inr ⟨_, a1⟩)) a2
end
/-! ## targets -/
abbrev DGT := D → En → (En → Prop) → Prop
abbrev DGsT := List D → En → (En → Prop) → Prop
def Off (sl : List Nat) (σ σ' : L2.St) : Prop := σ'.length = σ.length ∧ ∀ j, j ∉ sl → σ'[j]? = σ[j]?
theorem Off.trans {sl sl' : List Nat} {a b c : L2.St} (h : Off sl a b) (g : Off sl' b c) : Off (sl ++ sl') a c := ⟨g.1.trans h.1, fun j hj => by
  rw [List.mem_append] at hj
  rw [g.2 j fun z => hj (.inr z), h.2 j fun z => hj (.inl z)]⟩
structure DG (X : Cx) (B : Bs) (tg : Expr) (sl : List Nat) (g : TG) (t : DGT) : Prop where
  pg : PG X tg g
  sim : ∀ (F : Hp) (ρ : En) (σ : L2.St) (H : Hp) (v : V) (d : D) (P : En → Prop) (Q : L2.St → Hp → Prop), Rel B F ρ σ H → Rv B.K B.hd F v d → t d ρ P → (∀ F' ρ' σ' H', Rel B F' ρ' σ' H' → Same F F' → Off sl σ σ' → P ρ' → Q σ' H') → g v σ H Q
structure DGs (X : Cx) (B : Bs) (tgs : List Expr) (sl : List Nat) (g : TGs) (t : DGsT) : Prop where
  pg : PGs X tgs g
  sim : ∀ (F : Hp) (ρ : En) (σ : L2.St) (H : Hp) (vs : List V) (ds : List D) (P : En → Prop) (Q : L2.St → Hp → Prop), Rel B F ρ σ H → RvA B.K B.hd F vs ds → t ds ρ P → (∀ F' ρ' σ' H', Rel B F' ρ' σ' H' → Same F F' → Off sl σ σ' → P ρ' → Q σ' H') → g vs σ H Q
def dgName (i : Nat) : DGT := fun d ρ P => P (ρ.set i (some (.dat d)))
def dgTup (n : Nat) (t : DGsT) : DGT := fun d ρ P => match seqOfD d with
  | some ds => ds.length = n ∧ t ds ρ P
  | none => False
def dgNil : DGsT := fun ds ρ P => match ds with
  | [] => P ρ
  | _ => False
def dgCons (t : DGT) (u : DGsT) : DGsT := fun ds ρ P => match ds with
  | d :: ds => t d ρ fun ρ1 => u ds ρ1 P
  | [] => False
section
variable {X : Cx} {B : Bs} {e : Expr} {es : List Expr} {sl sl' : List Nat} {g : TG} {gs : TGs} {t : DGT} {u : DGsT} {pos : Pos}
theorem dg_name {i : Nat} {x : Str} (hN : X.N.Nodup) (hi : X.N[i]? = some x) (hx : Loc X.env.scope x) (hf : X.fn x = true ∨ X.env.scope.names.lookup x = some .local := by first | exact .inl rfl | exact .inr rfl | assumption) : DG X B (.Name x pos) [i] (gName i) (dgName i) :=
  ⟨pg_name hN hi hx hf, fun F ρ σ H v d P Q l rv w k => k F _ _ H (l.set (o := .dat d) rv fun z => by cases z) (Same.refl _) ⟨List.length_set, fun j hj => List.getElem?_set_ne fun z => hj (by simp [z])⟩ w⟩
theorem dgs_nil : DGs X B [] [] gNil dgNil := ⟨pgs_nil, fun F ρ σ H vs ds P Q l rv w k => by
  cases rv with
  | nil => exact ⟨rfl, k F ρ σ H l (Same.refl _) ⟨rfl, fun _ _ => rfl⟩ w⟩
  | cons a b => exact w.elim⟩
theorem dgs_cons (h : DG X B e sl g t) (h2 : DGs X B es sl' gs u) (hs : (assignEach (e :: es) X.env).map (·.2) = assign e X.env :: (assignEach es X.env).map (·.2) := by rfl) : DGs X B (e :: es) (sl ++ sl') (gCons g gs) (dgCons t u) := by
  refine ⟨pgs_cons h.pg h2.pg hs, fun F ρ σ H vs ds P Q l rv w k => ?_⟩
  cases rv with
  | nil => exact w.elim
  | cons a b =>
    refine ⟨_, _, rfl, h.sim F ρ σ H _ _ _ _ l a w fun F1 ρ1 σ1 H1 l1 s1 o1 p1 => ?_⟩
    exact h2.sim F1 ρ1 σ1 H1 _ _ P Q l1 (b.mono s1) p1 fun F2 ρ2 σ2 H2 l2 s2 o2 p2 => k F2 ρ2 σ2 H2 l2 (s1.trans s2) (o1.trans o2) p2
theorem kgtup {n k : Nat} (K : PySem.W.Frag) (hc : X.calm = true) (h : PGs X es gs) (hK : X.K = K) (hn : (assignEach es X.env).length = n) (hst : (assignEach es X.env).findIdx? (·.1) = none) : PG X (.Tuple es k pos) (GuA K n gs) := by
  subst hK
  exact pg_unA hc h hn hst
theorem dg_tup (K : PySem.W.Frag) {n k : Nat} (hc : X.calm = true) (h : DGs X B es sl gs u) (hK : X.K = B.K := by rfl) (hB : B.K = K := by rfl) (hn : (assignEach es X.env).length = n := by rfl) (hst : (assignEach es X.env).findIdx? (·.1) = none := by rfl) : DG X B (.Tuple es k pos) sl (GuA K n gs) (dgTup n u) := by
  subst hB
  refine ⟨kgtup B.K hc h.pg hK hn hst, fun F ρ σ H v d P Q l rv w k => ⟨?_⟩⟩
  unfold dgTup at w
  cases e1 : seqOfD d with
  | none => rw [e1] at w; exact w.elim
  | some ds =>
    rw [e1] at w
    cases d <;> first | cases e1 | skip
    · cases rv with
      | lst a1 a2 => exact .inr ⟨_, _, rfl, .of (l.sub _ _ a1), by rw [a2.len]; exact w.1, h.sim F ρ σ H _ _ P Q l a2 w.2 k⟩
    · cases rv with
      | tup a1 a2 => exact .inl ⟨_, _, rfl, Same.sqT l.sub a1, by rw [a2.len]; exact w.1, h.sim F ρ σ H _ _ P Q l a2 w.2 k⟩
    · cases rv with
      | tpx a1 e9 a2 => exact .inl ⟨_, _, rfl, .inl (.inr ⟨_, l.sub _ _ a1⟩), by rw [a2.len]; exact w.1, h.sim F ρ σ H _ _ P Q l a2 w.2 k⟩
end
end Z

set_option Elab.async false
set_option linter.all false
set_option maxRecDepth 100000
namespace Z
open PySem L2
/-! ## comprehensions -/
def wipeE (ρ : En) : List Nat → En
  | [] => ρ
  | v :: vs => (wipeE ρ vs).set v none
theorem wipeE_some {ρ : En} {i : Nat} {o : OV} : ∀ {vs : List Nat}, (wipeE ρ vs)[i]? = some (some o) → ρ[i]? = some (some o) ∧ i ∉ vs
  | [], h => ⟨h, by simp⟩
  | v :: vs, h => by
    rcases get_set (show ((wipeE ρ vs).set v none)[i]? = _ from h) with ⟨_, q, _⟩ | ⟨hi, q⟩
    · cases q
    · obtain ⟨a, b⟩ := wipeE_some q
      exact ⟨a, by simp [hi, b]⟩
theorem wipe_out' {σ : L2.St} {i : Nat} : ∀ {vs : List Nat}, i ∉ vs → (wipe σ vs)[i]? = σ[i]?
  | [], _ => rfl
  | v :: vs, h => by
    simp at h
    show ((wipe σ vs).set v none)[i]? = _
    rw [List.getElem?_set_ne (Ne.symm h.1), wipe_out' h.2]
theorem wipe_in {σ : L2.St} {i : Nat} : ∀ {vs : List Nat}, i ∈ vs → i < σ.length → (wipe σ vs)[i]? = some none
  | v :: vs, h, hl => by
    show ((wipe σ vs).set v none)[i]? = _
    by_cases e : i = v
    · subst e
      rw [List.getElem?_set_self (by rw [wipe_length]; exact hl)]
    · rw [List.getElem?_set_ne (Ne.symm e)]
      exact wipe_in (by simpa [e] using h) hl
theorem wipe_off {σ σ2 : L2.St} {sl vs : List Nat} (o : Off sl (wipe σ vs) σ2) (h : ∀ j ∈ sl, j ∈ vs) : wipe σ2 vs = wipe σ vs := by
  refine List.ext_getElem? fun j => ?_
  by_cases hj : j ∈ vs
  · by_cases hl : j < σ.length
    · rw [wipe_in hj hl, wipe_in hj (by rw [o.1, wipe_length]; exact hl)]
    · rw [List.getElem?_eq_none (by rw [wipe_length, o.1, wipe_length]; omega), List.getElem?_eq_none (by rw [wipe_length]; omega)]
  · rw [wipe_out' hj, o.2 j fun z => hj (h j z)]
section
variable {B : Bs} {F F' H H' : Hp} {ρ ρ' : En} {σ σ' : L2.St}
theorem Rel.wipe (r : Rel B F ρ σ H) : ∀ vs, Rel B F (wipeE ρ vs) (L2.wipe σ vs) H := by
  intro vs
  refine ⟨?_, r.sub, r.fro, r.new, r.kept, r.hnd, fun i o e => ?_, fun i j o o' v e e' w w' s s' => ?_⟩
  · rw [wipe_length, ← r.len]
    induction vs with
    | nil => rfl
    | cons v vs ih => unfold wipeE; rw [List.length_set, ih]
  · obtain ⟨a, b⟩ := wipeE_some e
    rw [wipe_out' b]
    exact r.var i o a
  · obtain ⟨a, b⟩ := wipeE_some e
    obtain ⟨a', b'⟩ := wipeE_some e'
    rw [wipe_out' b] at s
    rw [wipe_out' b'] at s'
    exact r.ap i j o o' v a a' w w' s s'
theorem Rel.unwipe {vs : List Nat} (r : Rel B F (wipeE ρ vs) (L2.wipe σ vs) H) : Rel B F (wipeE ρ vs) σ H := by
  refine ⟨by rw [r.len, wipe_length], r.sub, r.fro, r.new, r.kept, r.hnd, fun i o e => ?_, fun i j o o' v e e' w w' s s' => ?_⟩
  · obtain ⟨_, b⟩ := wipeE_some e
    have := r.var i o e
    rw [wipe_out' b] at this
    exact this
  · obtain ⟨_, b⟩ := wipeE_some e
    obtain ⟨_, b'⟩ := wipeE_some e'
    exact r.ap i j o o' v e e' w w' (by rw [wipe_out' b]; exact s) (by rw [wipe_out' b']; exact s')
/-- from a state as a base, back to the base of old -/
theorem Rel.rebase (r : Rel B F ρ σ H) (hd : ∀ (i : Nat) (o : OV), ρ[i]? = some (some o) → o.isOwn = false) {a0 : ∀ p, B.md = some p → H p.2 ≠ none} (r' : Rel ⟨B.K, B.md, F, H, a0⟩ F' ρ' σ' H') : Rel B F' ρ σ H' := by
  have s : Same F F' := r'.fro
  refine ⟨r.len, r'.sub, r.fro.trans s, fun b hb => ?_, fun b o e n => r'.kept b o (r.kept b o e n) n, fun p e => ?_, fun i o e => ?_, fun i j o o' v e e' w => ?_⟩
  · rcases r'.new b hb with z | z
    · exact r.new b z
    · exact .inr (r.no0 z)
  · obtain ⟨h1, h2, _⟩ := r'.hnd p e
    exact ⟨h1, h2, (r.hnd p e).2.2⟩
  · obtain ⟨v, e1, h⟩ := r.var i o e
    have := hd i o e
    cases o with
    | dat d => exact ⟨v, e1, Rv.mono h s⟩
    | own ds => cases this
    | dic ks ds => cases this
  · rw [hd i o e] at w; cases w
theorem Rel.base (r : Rel B F ρ σ H) (hd : ∀ (i : Nat) (o : OV), ρ[i]? = some (some o) → o.isOwn = false) (a0 : ∀ p, B.md = some p → H p.2 ≠ none) : Rel ⟨B.K, B.md, F, H, a0⟩ F ρ σ H := by
  refine ⟨r.len, r.sub, Same.refl _, fun b hb => .inl hb, fun b o e _ => e, fun p e => ?_, fun i o e => ?_, fun i j o o' v e e' w => ?_⟩
  · obtain ⟨h1, h2, _⟩ := r.hnd p e
    obtain ⟨u, hu⟩ := h1.there
    exact ⟨h1, h2, by show H p.1 ≠ none; rw [hu]; simp⟩
  · obtain ⟨v, e1, h⟩ := r.var i o e
    have := hd i o e
    cases o with
    | dat d => exact ⟨v, e1, h⟩
    | own ds => cases this
    | dic ks ds => cases this
  · rw [hd i o e] at w; cases w
theorem Rel.a0 (r : Rel B F ρ σ H) : ∀ p, B.md = some p → H p.2 ≠ none := fun p e z => by
  obtain ⟨h1, _, _⟩ := r.hnd p e
  obtain ⟨cs, i, a, t, _, e2, _⟩ := h1.ex
  rw [z] at e2; cases e2
theorem lent_dat {i : Nat} {o : OV} (h : (lent ρ)[i]? = some (some o)) : o.isOwn = false := by
  obtain ⟨o', _, rfl⟩ := lent_get h
  rfl
end
structure DPs (X : Cx) (B : Bs) (ifs : List Expr) (tT : TT) (t : DBT) : Prop where
  pts : PTs X ifs tT
  sim : SimB B tT t
def dYes : DBT := fun ρ P => P true ρ
theorem dps_nil {X : Cx} {B : Bs} : DPs X B [] tYes dYes := ⟨pts_nil, fun F ρ σ H P Q l w k => k true F ρ H l (Same.refl _) Kp.refl w⟩
theorem dps_one {X : Cx} {B : Bs} {c : Expr} {tT : TT} {t : DBT} (h : DTs X B c tT t) : DPs X B [c] tT t := ⟨pts_one h.pt, h.sim⟩
def dLcL (g : DGT) (tt : DBT) (te : DT) (ρl : En) (ho : Bool) : List D → List D → (List D → Prop) → Prop
  | [], acc, P => P acc
  | d :: ds, acc, P => g d ρl fun ρ2 => tt ρ2 fun b ρ3 => if b = true then te ρ3 fun r ρ4 => acc.length < sizeLine ∧ r.isVar = false ∧ (ho = true → noL (vl ρ4 r) = true) ∧ dLcL g tt te ρl ho ds (acc ++ [vl ρ4 r]) P
      else dLcL g tt te ρl ho ds acc P
def hasOwn (ρ : En) : Bool := ρ.any fun o => match o with
  | some o => o.isOwn
  | none => false
def noOwnAt (ρ : En) (vs : List Nat) : Bool := vs.all fun i => match ρ[i]? with
  | some (some o) => !o.isOwn
  | _ => true
def dLc (vs : List Nat) (ti : DIT) (g : DGT) (tt : DBT) (te : DT) : DT := fun ρ P => ti ρ fun ds ρ1 => noOwnAt ρ1 vs = true ∧ dLcL g tt te (lent (wipeE ρ1 vs)) (hasOwn (wipeE ρ1 vs)) ds [] fun out => P (.new out) ρ1
theorem noOwn_at {ρ : En} {vs : List Nat} (h : noOwnAt ρ vs = true) {i : Nat} {o : OV} (hi : i ∈ vs) (e : ρ[i]? = some (some o)) : o.isOwn = false := by
  have := List.all_eq_true.mp h i hi
  simp only [e] at this
  simpa using this
theorem wipeE_out {ρ : En} {i : Nat} : ∀ {vs : List Nat}, i ∉ vs → (wipeE ρ vs)[i]? = ρ[i]?
  | [], _ => rfl
  | v :: vs, h => by
    simp at h
    show ((wipeE ρ vs).set v none)[i]? = _
    rw [List.getElem?_set_ne (Ne.symm h.1), wipeE_out h.2]
theorem Rel.rewipe {B : Bs} {F F' H H' : Hp} {ρ : En} {σ : L2.St} {vs : List Nat} (l : Rel B F ρ σ H) (no : noOwnAt ρ vs = true) (s : Same F F') (r : Rel B F' (wipeE ρ vs) σ H') : Rel B F' ρ σ H' := by
  refine ⟨l.len, r.sub, r.fro, r.new, r.kept, r.hnd, fun i o e => ?_, l.ap⟩
  by_cases hi : i ∈ vs
  · obtain ⟨v, e1, h⟩ := l.var i o e
    have := noOwn_at no hi e
    cases o with
    | dat d => exact ⟨v, e1, Rv.mono h s⟩
    | own ds => cases this
    | dic ks ds => cases this
  · exact r.var i o (by rw [wipeE_out hi]; exact e)
theorem hasOwn_of {ρ : En} {i : Nat} {o : OV} (e : ρ[i]? = some (some o)) (w : o.isOwn = true) : hasOwn ρ = true := by
  unfold hasOwn
  rw [List.any_eq_true]
  exact ⟨some o, List.mem_of_getElem? e, w⟩
theorem lc_sim {B : Bs} {wi : TI} {g : TG} {tt : TT} {te : TE} {vs sl : List Nat} {ti : DIT} {dg : DGT} {dt : DBT} {de : DT} (hi : SimI B wi ti) (hsl : ∀ j ∈ sl, j ∈ vs)
    (hg : ∀ (F0 H0 : Hp) (a0 : ∀ p, B.md = some p → H0 p.2 ≠ none), ∀ (F : Hp) (ρ : En) (σ : L2.St) (H : Hp) (v : V) (d : D) (P : En → Prop) (Q : L2.St → Hp → Prop), Rel ⟨B.K, B.md, F0, H0, a0⟩ F ρ σ H → Rv B.K B.hd F v d → dg d ρ P → (∀ F' ρ' σ' H', Rel ⟨B.K, B.md, F0, H0, a0⟩ F' ρ' σ' H' → Same F F' → Off sl σ σ' → P ρ' → Q σ' H') → g v σ H Q)
    (ht : ∀ (F0 H0 : Hp) (a0 : ∀ p, B.md = some p → H0 p.2 ≠ none), SimB ⟨B.K, B.md, F0, H0, a0⟩ tt dt) (he : ∀ (F0 H0 : Hp) (a0 : ∀ p, B.md = some p → H0 p.2 ≠ none), Sim ⟨B.K, B.md, F0, H0, a0⟩ te de) :
    ∀ (F : Hp) (ρ : En) (σ : L2.St) (H : Hp) (P : R → En → Prop) (Q : VK), Rel B F ρ σ H → dLc vs ti dg dt de ρ P →
      (∀ r v F' ρ' H', Rel B F' ρ' σ H' → Same F F' → Kp ρ ρ' → RvR B F' ρ' σ H' v r → P r ρ' → Q v H') → tLc wi g tt te vs σ H Q := by
  intro F ρ σ H P Q l w k
  refine hi F ρ σ H _ _ l w fun J ds F1 ρ1 H1 l1 s1 kp wd pp Dd nD => ?_
  obtain ⟨no, p⟩ := pp
  obtain ⟨G, Y, wk, hG, hY⟩ := wd.ex
  have l0 := l1.wipe vs
  generalize eρ : wipeE ρ1 vs = ρ0 at l0 p
  obtain ⟨σ0, eσ⟩ : ∃ s, s = L2.wipe σ vs := ⟨_, rfl⟩
  rw [← eσ] at l0
  have nOwn : ¬ Own ρ0 σ0 Dd := fun z => by
    obtain ⟨_, _, u, e, _⟩ := l0.ownF z
    rw [nD] at e; cases e
  have nO : ∀ (i : Nat) (o : OV), ρ0[i]? = some (some o) → o.isOwn = true → σ0[i]? ≠ some (some (V.ref Dd)) := fun i o e w z => nOwn ⟨i, o, e, w, z⟩
  have n0 : B.H0 Dd = none := l0.no0 nD
  refine lc_it wk (vs := vs) (σ := σ) (g := g) (tt := tt) (te := te) (Qd := Q (.ref Dd)) (fun i H => ∃ (F2 : Hp) (acc : List V) (accD : List D), Rel B F2 ρ0 σ0 H ∧ Same F1 F2 ∧ H Dd = some (.lst acc) ∧ RvA B.K B.hd F2 acc accD ∧ F2 Dd = none ∧ dLcL dg dt de (lent ρ0) (hasOwn ρ0) (ds.drop i) accD fun out => P (.new out) ρ1)
    ⟨F1, [], [], l0.newO nD, Same.refl _, upd_same, .nil, l0.noF nD, p⟩ (fun i H2 _ ⟨F2, _, _, l2, s2, _⟩ => hG F2 ρ0 σ0 H2 l2 s2) ?_ ?_
  · rintro i x H2 H3 hi' ⟨F2, acc, accD, l2, s2, e2, a2, n2, p2⟩ y
    obtain ⟨d, F3, ed, l3, s3, rv3, sH, nw⟩ := hY i F2 ρ0 σ0 H2 x H3 l2 s2 hi' y
    have hl := (List.getElem?_eq_some_iff.mp ed).1
    have edr : ds.drop i = d :: ds.drop (i + 1) := by
      rw [List.drop_eq_getElem_cons hl, (List.getElem?_eq_some_iff.mp ed).2]
    rw [edr] at p2
    have e3 : H3 Dd = some (.lst acc) := sH _ _ e2
    have n3 : F3 Dd = none := by
      cases q : F3 Dd with
      | none => rfl
      | some u =>
        rcases nw Dd (by rw [q]; simp) with z | z
        · exact absurd n2 z
        · rw [e2] at z; cases z
    have lL := l3.lend
    have lB := lL.base (fun i o e => lent_dat e) lL.a0
    have bk : ∀ {F4 : Hp} {ρ4 : En} {σ4 : L2.St} {H4 : Hp}, Rel ⟨B.K, B.md, Z.lend F3 ρ0 σ0 H3, H3, lL.a0⟩ F4 ρ4 σ4 H4 → Rel B (unlend F4 ρ0 σ0) ρ0 σ0 H4 ∧ Same F3 (unlend F4 ρ0 σ0) ∧ H4 Dd = some (.lst acc) ∧ unlend F4 ρ0 σ0 Dd = none ∧ (∀ (v : V) (d : D), Rv B.K B.hd F4 v d → (hasOwn ρ0 = true → noL d = true) → Rv B.K B.hd (unlend F4 ρ0 σ0) v d) := fun {F4 ρ4 σ4 H4} r4 => by
      have r5 := lL.rebase (fun i o e => lent_dat e) r4
      obtain ⟨r6, s6, less⟩ := l3.back r4.fro r5
      refine ⟨r6, s6, r4.kept Dd _ e3 (fun p ep z => (l0.hnd p ep).2.2 (by rw [← z]; exact n0)), ?_, fun v d rv hn => ?_⟩
      · rw [unlend_no nOwn]
        cases q : F4 Dd with
        | none => rfl
        | some u =>
          rcases r4.new Dd (by rw [q]; simp) with z | z
          · exact absurd (by show Z.lend F3 ρ0 σ0 H3 Dd = none; rw [lend_no nOwn]; exact n3) z
          · have z' : H3 Dd = none := z
            rw [e3] at z'; cases z'
      · by_cases ho : hasOwn ρ0 = true
        · exact Rv.less less d v (hn ho) rv
        · refine rv.mono fun b o e => ?_
          rw [unlend_no]
          · exact e
          · rintro ⟨i, o', e1, w1, _⟩
            exact ho (hasOwn_of e1 w1)
    rw [← eσ]
    refine hg _ _ lL.a0 _ _ _ _ x d _ _ lB (rv3.mono l3.lend_same) p2 fun F4 ρ4 σ4 H4 l4 s4 o4 p4 => ⟨by rw [eσ] at o4 ⊢; exact wipe_off o4 hsl, ?_⟩
    refine ht _ _ lL.a0 F4 ρ4 σ4 H4 _ _ l4 p4 fun b F5 ρ5 H5 l5 s5 k5 p5 => ?_
    cases b with
    | false =>
      obtain ⟨r6, s6, e6, n6, _⟩ := bk l5
      exact ⟨_, acc, accD, r6, s2.trans (s3.trans s6), e6, a2.mono (s3.trans s6), n6, p5⟩
    | true =>
      refine (he _ _ lL.a0).frz F5 ρ5 σ4 H5 _ _ l5 p5 fun r v F6 ρ6 H6 l6 s6 k6 rv6 ⟨q1, q2, q3, q4⟩ => ?_
      obtain ⟨r7, s7, e7, n7, c7⟩ := bk l6
      have rv7 : Rv B.K B.hd F6 v (vl ρ6 r) := by
        cases r with
        | dat d => exact rv6
        | new ds => exact rv6
        | var i => cases q2
      refine ⟨acc, e7, by rw [a2.len]; exact q1, _, acc ++ [v], _, r7.upd n7 n0 nO, s2.trans (s3.trans s7), upd_same, (a2.mono (s3.trans s7)).app (.cons (c7 v _ rv7 q3) .nil), n7, q4⟩
  · rintro H2 ⟨F2, acc, accD, l2, s2, e2, a2, n2, p2⟩
    rw [List.drop_length] at p2
    refine k (.new accD) _ F2 ρ1 H2 (l1.rewipe no s2 (by subst eρ eσ; exact l2.unwipe)) (s1.trans s2) kp ⟨Dd, acc, rfl, e2, a2, n2, n0, fun i o e w z => ?_⟩ p2
    have hi : i ∉ vs := fun hi => by rw [noOwn_at no hi e] at w; cases w
    refine nO i o (by rw [← eρ, wipeE_out hi]; exact e) w ?_
    rw [eσ, wipe_out' hi]
    exact z
end Z

set_option Elab.async false
set_option linter.all false
set_option maxRecDepth 100000
namespace Z
open PySem L2
/-! ## from an entry -/
def After (B : Bs) (F' H' : Hp) : Prop := Same B.F0 F' ∧ Same F' H' ∧ (∀ b, F' b ≠ none → B.F0 b ≠ none ∨ B.H0 b = none) ∧ (∀ b o, B.H0 b = some o → (∀ p, B.md = some p → b ≠ p.1) → H' b = some o) ∧ ∀ p, B.md = some p → Hnd H' p.1 p.2 ∧ F' p.1 = none ∧ B.H0 p.1 ≠ none
def RvC (B : Bs) (F' H' : Hp) (v : V) : R → Prop
  | .dat d => Rv B.K B.hd F' v d
  | .new ds => ∃ p vs, v = .ref p ∧ H' p = some (.lst vs) ∧ RvA B.K B.hd F' vs ds ∧ F' p = none ∧ B.H0 p = none
  | .var _ => False
section
variable {B : Bs} {F F' H H' : Hp} {ρ ρ' : En} {σ σ' : L2.St}
theorem Rel.to (r : Rel B F ρ σ H) : After B F H := ⟨r.fro, r.sub, r.new, r.kept, r.hnd⟩
/-- behind a callee -/
theorem Rel.after (r : Rel B F ρ σ H) {a0 : ∀ p, B.md = some p → H p.2 ≠ none} (a : After ⟨B.K, B.md, F, H, a0⟩ F' H') : Rel B F' ρ σ H' ∧ Same F F' := by
  obtain ⟨a1, a2, a3, a4, a5⟩ := a
  have s : Same F F' := a1
  refine ⟨⟨r.len, a2, r.fro.trans s, fun b hb => ?_, fun b o e n => a4 b o (r.kept b o e n) n, fun p e => ⟨(a5 p e).1, (a5 p e).2.1, (r.hnd p e).2.2⟩, fun i o e => ?_, r.ap⟩, s⟩
  · rcases a3 b hb with z | z
    · exact r.new b z
    · exact .inr (r.no0 z)
  · obtain ⟨v, e1, h⟩ := r.var i o e
    refine ⟨v, e1, h.mono s fun p u ev w hp => ?_⟩
    subst ev
    obtain ⟨p', u', e', _, n', n0, _⟩ := h.own w
    cases e'
    refine ⟨a4 p u hp fun q eq z => (r.hnd q eq).2.2 (by rw [← z]; exact n0), ?_⟩
    cases q : F' p with
    | none => rfl
    | some x =>
      rcases a3 p (by rw [q]; simp) with z | z
      · exact absurd n' z
      · have z' : H p = none := z
        rw [hp] at z'; cases z'
theorem Rel.afterR (r : Rel B F ρ σ H) {a0 : ∀ p, B.md = some p → H p.2 ≠ none} (a : After ⟨B.K, B.md, F, H, a0⟩ F' H') {x : R} {v : V} (h : RvC ⟨B.K, B.md, F, H, a0⟩ F' H' v x) : RvR B F' ρ σ H' v x := by
  cases x with
  | dat d => exact h
  | var i => exact h.elim
  | new ds =>
    obtain ⟨p, vs, rfl, e, ra, n, n0⟩ := h
    have n1 : H p = none := n0
    refine ⟨p, vs, rfl, e, ra, n, r.no0 n1, fun i o e1 w z => ?_⟩
    obtain ⟨q, u, e2, h2, _⟩ := r.own e1 w
    rw [e2] at z
    cases z
    rw [n1] at h2; cases h2
end
abbrev EXD := Addr → List (Str × D) → Prop
def LX (B : Bs) (ex : EXD) (E : XK) : Prop :=
  (∀ C (fs : List (Str × D)) d (fv : List (Str × V)) F' H', After B F' H' → F' d = some (.xd fv) → fv.map (·.1) = fs.map (·.1) → RvA B.K B.hd F' (fv.map (·.2)) (fs.map (·.2)) → ex C fs → E (.ref C) (some d) H') ∧
  ∀ C F' H', After B F' H' → ex C [] → E (.ref C) none H'
abbrev DW := List D → (R → Prop) → EXD → Prop
structure BOk (B : Bs) : Prop where
  sub : Same B.F0 B.H0
  hnd : ∀ p, B.md = some p → Hnd B.H0 p.1 p.2 ∧ B.F0 p.1 = none
/-- a def's promise by values -/
def spD (K : PySem.W.Frag) (W : DW) : Sp := fun vs H Q E => ∃ (B : Bs) (ds : List D) (P : R → Prop) (ex : EXD), B.K = K ∧ B.H0 = H ∧ BOk B ∧ RvA B.K B.hd B.F0 vs ds ∧ W ds P ex ∧ (∀ r v F' H', P r → After B F' H' → RvC B F' H' v r → Q v H') ∧ LX B ex E
theorem BOk.after {B : Bs} (h : BOk B) : After B B.F0 B.H0 := ⟨Same.refl _, h.sub, fun b hb => .inl hb, fun b o e _ => e, fun p e => ⟨(h.hnd p e).1, (h.hnd p e).2, by obtain ⟨o, ho⟩ := (h.hnd p e).1.there; rw [ho]; simp⟩⟩
/-! ## calls -/
def dCall (W : DW) (dd : List D) (ex : EXD) (u : DTA) : DT := fun ρ P => u ρ fun rs ρ1 => W (rs.map (vl ρ1) ++ dd) (fun r => bOk rs r ∧ P r ρ1) ex
/-- a def of the module that may be called, with its promise and the values of its last parameters -/
structure CalV (P : Program) (w : World) (K : PySem.W.Frag) (mg : Str → Option Value) (base : Heap) (CX : CXT) (x : Str) (k : Nat) (sp : Sp) (dvs : List V) : Prop where
  ex : ∃ (f : Addr) (fd : FuncData) (ps : List Str) (ds : List Value), mg x = some (.ref f) ∧ PySem.W.keepIn K (.ref f) = true ∧ Binds K fd ps ds ∧ Vals dvs ds ∧ FnOk P w K mg base CX k f fd ps sp
theorem Cal.v {P : Program} {w : World} {K : PySem.W.Frag} {mg : Str → Option Value} {base : Heap} {CX : CXT} {x : Str} {k : Nat} {sp : Sp} (c : Cal P w K mg base CX x k sp) : CalV P w K mg base CX x k sp [] := by
  obtain ⟨f, fd, ps, h1, h2, h3, h4⟩ := c.ex
  exact ⟨f, fd, ps, [], h1, h2, h3, .nil, h4⟩
section
variable {X : Cx} {B : Bs} {CX : CXT} {x : Str} {k : Nat} {W : DW} {E : XK} {ex : EXD} {e : Expr} {es : List Expr} {tA : TA} {u : DTA} {p pos : Pos} {dvs : List V} {dd : List D}
theorem lx_in {F H : Hp} {ρ : En} {σ : L2.St} (l : Rel B F ρ σ H) (hl : LX B ex E) : LX ⟨B.K, B.md, F, H, l.a0⟩ ex E := by
  refine ⟨fun C fs d fv F' H' a e1 e2 e3 q => ?_, fun C F' H' a q => ?_⟩
  · obtain ⟨l', _⟩ := l.after a
    exact hl.1 C fs d fv F' H' l'.to e1 e2 e3 q
  · obtain ⟨l', _⟩ := l.after a
    exact hl.2 C F' H' l'.to q
theorem sp_call {F H : Hp} {ρ : En} {σ : L2.St} {vs : List V} {rs : List R} {P : R → Prop} {Q : VK} (l : Rel B F ρ σ H) (h : AllR B F ρ σ H vs rs) (hl : LX B ex E) (hdv : ∀ F, RvA B.K B.hd F dvs dd)
    (w : W (rs.map (vl ρ) ++ dd) (fun r => bOk rs r ∧ P r) ex) (k : Kt B F ρ σ P Q) : spD B.K W (vs ++ dvs) H Q E := by
  refine lendRun l h (fun P => W (rs.map (vl ρ) ++ dd) P ex) (fun Q => spD B.K W (vs ++ dvs) H Q E) (fun F1 ρ1 l1 _ a P' Q' w' k' => ?_) w k
  exact ⟨⟨B.K, B.md, F1, H, l1.a0⟩, _, P', ex, rfl, rfl, ⟨l1.sub, fun p e => ⟨(l1.hnd p e).1, (l1.hnd p e).2.1⟩⟩, a.app (hdv F1), w', fun r v F' H' p a rv => k' r v F' H' (l1.after a).1 (l1.after a).2 (l1.afterR a rv) p, lx_in l1 hl⟩
theorem de_callV {K : PySem.W.Frag} (c : CalV X.prog X.w X.K X.mg X.base CX x k (spD K W) dvs) (hr : Room k X.A) (hg : Gl X x) (hx : Passes CX X E) (hl : LX B ex E) (hdv : ∀ F, RvA B.K B.hd F dvs dd) (ha : DA X B (e :: es) tA u)
    (hB : B.K = K := by rfl) (hdb : (x == ("__debug__" : Str)) = false := by decide) (he : starEach (e :: es) X.env = (false, eval e X.env) :: starEach es X.env := by rfl) (hpl : (backTo pos (starEach es X.env)).any (·.1) = false := by rfl) :
    DE X B (.Call (.Name x p) (e :: es) [] pos) (tCall (spD K W) dvs E tA) (dCall W dd ex u) := by
  subst hB
  obtain ⟨f, fd, ps, ds, hm, hk, hb, hv, FO⟩ := c.ex
  refine ⟨pe_call FO hr hg hm hk hb hv hx ha.pe hdb he hpl, fun F ρ σ H P Q l w k => ha.sim F ρ σ H _ _ l w fun rs vs F' ρ' H' l' s kp al q => ?_⟩
  exact sp_call l' al hl hdv q fun r v F2 H2 l2 s2 rv p => k r v F2 ρ' H2 l2 (s.trans s2) kp rv p
def exF : EXD := fun _ _ => False
theorem lx0 : LX B exF E0 := ⟨fun _ _ _ _ _ _ _ _ _ _ q => q.elim, fun _ _ _ _ q => q.elim⟩
/-- of a def that lets nothing out -/
theorem de_call {K : PySem.W.Frag} (c : Cal X.prog X.w X.K X.mg X.base CX0 x k (spD K W)) (hr : Room k X.A) (hg : Gl X x) (ha : DA X B (e :: es) tA u)
    (hB : B.K = K := by rfl) (hdb : (x == ("__debug__" : Str)) = false := by decide) (he : starEach (e :: es) X.env = (false, eval e X.env) :: starEach es X.env := by rfl) (hpl : (backTo pos (starEach es X.env)).any (·.1) = false := by rfl) :
    DE X B (.Call (.Name x p) (e :: es) [] pos) (tCall (spD K W) [] E0 tA) (dCall W [] exF u) := de_callV c.v hr hg pass0 lx0 (fun _ => .nil) ha hB hdb he hpl
theorem de_callD {K : PySem.W.Frag} (c : CalV X.prog X.w X.K X.mg X.base CX0 x k (spD K W) dvs) (hr : Room k X.A) (hg : Gl X x) (hdv : ∀ F, RvA B.K B.hd F dvs dd) (ha : DA X B (e :: es) tA u)
    (hB : B.K = K := by rfl) (hdb : (x == ("__debug__" : Str)) = false := by decide) (he : starEach (e :: es) X.env = (false, eval e X.env) :: starEach es X.env := by rfl) (hpl : (backTo pos (starEach es X.env)).any (·.1) = false := by rfl) :
    DE X B (.Call (.Name x p) (e :: es) [] pos) (tCall (spD K W) dvs E0 tA) (dCall W dd exF u) := de_callV c hr hg pass0 lx0 hdv ha hB hdb he hpl
end
/-! ## statements -/
structure DEnds where
  nx : En → Prop
  rt : R → Prop
  bk : En → Prop := fun _ => False
  ct : En → Prop := fun _ => False
abbrev DST := DEnds → En → Prop
structure LkE (B : Bs) (F : Hp) (D : DEnds) (E : Ends) : Prop where
  nx : ∀ F' ρ' σ' H', Rel B F' ρ' σ' H' → Same F F' → D.nx ρ' → E.nx σ' H'
  rt : ∀ r v F' H', After B F' H' → RvC B F' H' v r → D.rt r → E.rt v H'
  bk : ∀ F' ρ' σ' H', Rel B F' ρ' σ' H' → Same F F' → D.bk ρ' → E.bk σ' H'
  ct : ∀ F' ρ' σ' H', Rel B F' ρ' σ' H' → Same F F' → D.ct ρ' → E.ct σ' H'
theorem LkE.mono {B : Bs} {F F' : Hp} {D : DEnds} {E : Ends} (h : LkE B F D E) (s : Same F F') : LkE B F' D E :=
  ⟨fun a b c d l s2 => h.nx a b c d l (s.trans s2), h.rt, fun a b c d l s2 => h.bk a b c d l (s.trans s2), fun a b c d l s2 => h.ct a b c d l (s.trans s2)⟩
def SimS (B : Bs) (tS : TS) (t : DST) : Prop := ∀ (F : Hp) (ρ : En) (σ : L2.St) (H : Hp) (D : DEnds) (E : Ends), Rel B F ρ σ H → t D ρ → LkE B F D E → tS E σ H
structure DS (X : Cx) (B : Bs) (st : Stmt) (tS : TS) (t : DST) : Prop where
  ps : PS X st tS
  sim : SimS B tS t
structure DSs (X : Cx) (B : Bs) (sts : List Stmt) (tS : TS) (t : DST) : Prop where
  ps : PSs X sts tS
  sim : SimS B tS t
def dNext : DST := fun D ρ => D.nx ρ
def dSq (t u : DST) : DST := fun D ρ => t { D with nx := u D } ρ
section
variable {X : Cx} {B : Bs} {st : Stmt} {sts : List Stmt} {tS uS : TS} {t u : DST} {e : Expr} {tE : TE} {te : DT} {pos : Pos}
theorem dss_nil : DSs X B [] tNext dNext := ⟨pss_nil, fun F ρ σ H D E l w k => k.nx F ρ σ H l (Same.refl _) w⟩
theorem dss_cons (h : DS X B st tS t) (g : DSs X B sts uS u) : DSs X B (st :: sts) (tSeq tS uS) (dSq t u) :=
  ⟨pss_cons h.ps g.ps, fun F ρ σ H D E l w k => h.sim F ρ σ H _ { E with nx := uS E } l w ⟨fun F' ρ' σ' H' l' s q => g.sim F' ρ' σ' H' D E l' q (k.mono s), k.rt, k.bk, k.ct⟩⟩
theorem dss_one (h : DS X B st tS t) : DSs X B [st] tS t := ⟨pss_one h.ps, h.sim⟩
theorem ds_pass : DS X B (.Pass pos) tNext dNext := ⟨ps_pass, fun F ρ σ H D E l w k => k.nx F ρ σ H l (Same.refl _) w⟩
def dBreak : DST := fun D ρ => D.bk ρ
def dCont : DST := fun D ρ => D.ct ρ
theorem ds_break : DS X B (.Break pos) tBreak dBreak := ⟨ps_break, fun F ρ σ H D E l w k => k.bk F ρ σ H l (Same.refl _) w⟩
theorem ds_continue : DS X B (.Continue pos) tCont dCont := ⟨ps_continue, fun F ρ σ H D E l w k => k.ct F ρ σ H l (Same.refl _) w⟩
def dDrop (te : DT) : DST := fun D ρ => te ρ fun _ ρ1 => D.nx ρ1
theorem ds_expr (h : DE X B e tE te) (hs : swapsWith e none pos.line X.env = pure false := by rfl) : DS X B (.Expr e pos) (tDrop tE) (dDrop te) :=
  ⟨ps_expr h.pe hs, fun F ρ σ H D E l w k => h.sim F ρ σ H _ _ l w fun r v F' ρ' H' l' s kp rv p => k.nx F' ρ' σ H' l' s p⟩
/-- what is given back of a name's own list is a new list -/
def retR (ρ : En) : R → R
  | .var i => match ρ[i]? with
    | some (some (.own ds)) => .new ds
    | some (some o) => .dat o.frz
    | _ => .var i
  | r => r
def dRet (te : DT) : DST := fun D ρ => te ρ fun r ρ1 => D.rt (retR ρ1 r)
theorem ret_of {F H : Hp} {ρ : En} {σ : L2.St} {r : R} {v : V} (l : Rel B F ρ σ H) (h : RvR B F ρ σ H v r) : ∃ F', After B F' H ∧ RvC B F' H v (retR ρ r) := by
  cases r with
  | dat d => exact ⟨F, l.to, h⟩
  | new ds =>
    obtain ⟨p, vs, e, e1, a, n, n0, _⟩ := h
    exact ⟨F, l.to, p, vs, e, e1, a, n, n0⟩
  | var i =>
    obtain ⟨es, o, e⟩ := h
    cases o with
    | own ds =>
      have q : retR ρ (.var i) = .new ds := by
        show (match ρ[i]? with | some (some (.own ds)) => R.new ds | some (some o) => .dat o.frz | _ => .var i) = _
        rw [e]
      rw [q]
      obtain ⟨v', e1, p, vs, rfl, h1, h2, h3, h4⟩ := l.var i _ e
      rw [es] at e1
      cases e1
      exact ⟨F, l.to, p, vs, rfl, h1, h2, h3, h4⟩
    | dat d =>
      have q : retR ρ (.var i) = .dat d := by
        show (match ρ[i]? with | some (some (.own ds)) => R.new ds | some (some o) => .dat o.frz | _ => .var i) = _
        rw [e]
        rfl
      rw [q]
      obtain ⟨v', e1, h1⟩ := l.var i _ e
      rw [es] at e1
      cases e1
      exact ⟨F, l.to, h1⟩
    | dic ks ds =>
      have q : retR ρ (.var i) = .dat (.dct ks ds) := by
        show (match ρ[i]? with | some (some (.own ds)) => R.new ds | some (some o) => .dat o.frz | _ => .var i) = _
        rw [e]
        rfl
      rw [q]
      obtain ⟨F', s, l', rv⟩ := l.mv (r := .var i) (v := v) ⟨es, _, e⟩
      have q2 : vl ρ (.var i) = .dct ks ds := by
        show (match ρ[i]? with | some (some o) => o.frz | _ => D.non) = _
        rw [e]
        rfl
      rw [q2] at rv
      exact ⟨F', l'.to, rv⟩
theorem ds_ret (h : DE X B e tE te) : DS X B (.Return (some e) pos) (tRet tE) (dRet te) := by
  refine ⟨ps_ret h.pe, fun F ρ σ H D E l w k => h.sim F ρ σ H _ _ l w fun r v F' ρ' H' l' s kp rv p => ?_⟩
  obtain ⟨F2, a, q⟩ := ret_of l' rv
  exact k.rt _ v F2 H' a q p
def dRetN : DST := fun D _ => D.rt (.dat .non)
theorem ds_retN : DS X B (.Return none pos) tRetN dRetN := ⟨ps_retN, fun F ρ σ H D E l w k => k.rt (.dat .non) _ F H l.to .non w⟩
def dIf (c : DBT) (t u : DST) : DST := fun D ρ => c ρ fun b ρ1 => if b = true then t D ρ1 else u D ρ1
theorem ds_if {c : Expr} {a b : List Stmt} {tT : TT} {tc : DBT} (hc : DTs X B c tT tc) (ha : DSs X B a tS t) (hb : DSs X B b uS u) : DS X B (.If c a b pos) (tIfS tT tS uS) (dIf tc t u) := by
  refine ⟨ps_if hc.pt ha.ps hb.ps, fun F ρ σ H D E l w k => hc.sim F ρ σ H _ _ l w fun b F' ρ' H' l' s kp p => ?_⟩
  cases b with
  | true => exact ha.sim F' ρ' σ H' D E l' p (k.mono s)
  | false => exact hb.sim F' ρ' σ H' D E l' p (k.mono s)
/-! ### a name's new value: frozen, or its own -/
def dSetF (i : Nat) (te : DT) : DST := fun D ρ => te ρ fun r ρ1 => D.nx ((mvE ρ1 r).set i (some (.dat (vl ρ1 r))))
def dSetO (i : Nat) (te : DT) : DST := fun D ρ => te ρ fun r ρ1 => match r with
  | .new ds => D.nx (ρ1.set i (some (.own ds)))
  | _ => False
theorem sim_setF {i : Nat} (h : Sim B tE te) : SimS B (tAsg tE (gName i)) (dSetF i te) := fun F ρ σ H D E l w k => h.frz F ρ σ H _ _ l w fun r v F' ρ' H' l' s kp rv p => by
  obtain ⟨F2, s2, l2, v2⟩ := l'.mv rv
  exact k.nx F2 _ _ H' (l2.set (o := .dat _) v2 fun z => by cases z) (s.trans s2) p
theorem sim_setO {i : Nat} (h : Sim B tE te) : SimS B (tAsg tE (gName i)) (dSetO i te) := fun F ρ σ H D E l w k => h F ρ σ H _ _ l w fun r v F' ρ' H' l' s kp rv p => by
  match r, rv, p with
  | .new ds, ⟨q, vs, ev, e1, a, n, n0, ne⟩, p =>
    subst ev
    exact k.nx F' _ _ H' (l'.set (o := .own ds) ⟨q, vs, rfl, e1, a, n, n0⟩ fun _ j o' e w => ne j o' e w) s p
theorem ds_setF {i : Nat} {x : Str} {pos' : Pos} (hN : X.N.Nodup) (hi : X.N[i]? = some x) (hx : Loc X.env.scope x) (h : DE X B e tE te) (hs : swapsWith e (some (.Name x pos')) pos.line X.env = pure false := by rfl) (hf : X.fn x = true ∨ X.env.scope.names.lookup x = some .local := by first | exact .inl rfl | exact .inr rfl | assumption) :
    DS X B (.Assign [.Name x pos'] e pos) (tAsg tE (gName i)) (dSetF i te) := ⟨ps_set hN hi hx h.pe hs hf, sim_setF h.sim⟩
theorem ds_setO {i : Nat} {x : Str} {pos' : Pos} (hN : X.N.Nodup) (hi : X.N[i]? = some x) (hx : Loc X.env.scope x) (h : DE X B e tE te) (hs : swapsWith e (some (.Name x pos')) pos.line X.env = pure false := by rfl) (hf : X.fn x = true ∨ X.env.scope.names.lookup x = some .local := by first | exact .inl rfl | exact .inr rfl | assumption) :
    DS X B (.Assign [.Name x pos'] e pos) (tAsg tE (gName i)) (dSetO i te) := ⟨ps_set hN hi hx h.pe hs hf, sim_setO h.sim⟩
/-! ### comprehensions -/
variable {tg iter elt : Expr} {ifs : List Expr} {scope : Scope} {own : List (Str × Nat)} {wi : TI} {g : TG} {tt : TT} {te' : TE} {sl : List Nat} {ti : DIT} {dg : DGT} {dt : DBT} {de : DT}
theorem de_lc (hc : X.calm = true) (hN : X.N.Nodup) (hi : DI X B tg iter wi ti) (ok : BlkOk X.N X.env.scope scope own)
    (hg : ∀ (F0 H0 : Hp) (a0 : ∀ p, B.md = some p → H0 p.2 ≠ none) (s : Shared) (H : Hp) (C : Addr) (cl : List (Str × Addr)) (fp : List Addr), DG (X.blk s H scope (compEnvC scope cl C X.env) fp) ⟨B.K, B.md, F0, H0, a0⟩ tg sl g dg)
    (ht : ∀ (F0 H0 : Hp) (a0 : ∀ p, B.md = some p → H0 p.2 ≠ none) (s : Shared) (H : Hp) (C : Addr) (cl : List (Str × Addr)) (fp : List Addr), DPs (X.blk s H scope (compEnvC scope cl C X.env) fp) ⟨B.K, B.md, F0, H0, a0⟩ ifs tt dt)
    (he : ∀ (F0 H0 : Hp) (a0 : ∀ p, B.md = some p → H0 p.2 ≠ none) (s : Shared) (H : Hp) (C : Addr) (cl : List (Str × Addr)) (fp : List Addr), DE (X.blk s H scope (compEnvC scope cl C X.env) fp) ⟨B.K, B.md, F0, H0, a0⟩ elt te' de)
    (hsl : ∀ j ∈ sl, j ∈ own.map (·.2) := by decide) (s0 : Shared) (hs : ∀ x, foldedSetIterable iter X.env x = pure x := by intro _; rfl) : DE X B (.ListComp elt [⟨tg, iter, ifs, 0⟩] scope pos) (tLc wi g tt te' (own.map (·.2))) (dLc (own.map (·.2)) ti dg dt de) := by
  have an : ∀ (H0 : Hp) (a0 : ∀ p, B.md = some p → H0 p.2 ≠ none), True := fun _ _ => trivial
  refine ⟨pe_lc hc hN hi.pi ok (fun s H C cl fp => ?_) (fun s H C cl fp => ?_) (fun s H C cl fp => ?_) hs, lc_sim hi.sim hsl (fun F0 H0 a0 => (hg F0 H0 a0 s0 H0 0 [] []).sim) (fun F0 H0 a0 => (ht F0 H0 a0 s0 H0 0 [] []).sim) (fun F0 H0 a0 => (he F0 H0 a0 s0 H0 0 [] []).sim)⟩
  · exact (hg B.F0 B.H0 B.a0 s H C cl fp).pg
  · exact (ht B.F0 B.H0 B.a0 s H C cl fp).pts
  · exact (he B.F0 B.H0 B.a0 s H C cl fp).pe
/-- x = [..] -/
theorem ds_lcF {i : Nat} {y : Str} {py spos : Pos} (hc : X.calm = true) (hN : X.N.Nodup) (hy : X.N[i]? = some y) (hyl : X.env.scope.names.lookup y = some .local)
    (hsw : swapsWith (.ListComp elt [⟨tg, iter, ifs, 0⟩] scope pos) (some (.Name y py)) spos.line X.env = pure true) (hi : DI X B tg iter wi ti) (ok : BlkOk X.N X.env.scope scope own)
    (hg : ∀ (F0 H0 : Hp) (a0 : ∀ p, B.md = some p → H0 p.2 ≠ none) (s : Shared) (H : Hp) (C : Addr) (cl : List (Str × Addr)) (fp : List Addr), DG (X.blk s H scope (compEnvC scope cl C X.env) fp) ⟨B.K, B.md, F0, H0, a0⟩ tg sl g dg)
    (ht : ∀ (F0 H0 : Hp) (a0 : ∀ p, B.md = some p → H0 p.2 ≠ none) (s : Shared) (H : Hp) (C : Addr) (cl : List (Str × Addr)) (fp : List Addr), DPs (X.blk s H scope (compEnvC scope cl C X.env) fp) ⟨B.K, B.md, F0, H0, a0⟩ ifs tt dt)
    (he : ∀ (F0 H0 : Hp) (a0 : ∀ p, B.md = some p → H0 p.2 ≠ none) (s : Shared) (H : Hp) (C : Addr) (cl : List (Str × Addr)) (fp : List Addr), DE (X.blk s H scope (compEnvC scope cl C X.env) fp) ⟨B.K, B.md, F0, H0, a0⟩ elt te' de)
    (hsl : ∀ j ∈ sl, j ∈ own.map (·.2)) (s0 : Shared) (hs : ∀ x, foldedSetIterable iter X.env x = pure x := by intro _; rfl) : DS X B (.Assign [.Name y py] (.ListComp elt [⟨tg, iter, ifs, 0⟩] scope pos) spos) (tAsg (tLc wi g tt te' (own.map (·.2))) (gName i)) (dSetF i (dLc (own.map (·.2)) ti dg dt de)) := by
  refine ⟨ps_setLc hc hN hy hyl hsw hi.pi ok (fun s H C cl fp => ?_) (fun s H C cl fp => ?_) (fun s H C cl fp => ?_) hs, sim_setF (lc_sim hi.sim hsl (fun F0 H0 a0 => (hg F0 H0 a0 s0 H0 0 [] []).sim) (fun F0 H0 a0 => (ht F0 H0 a0 s0 H0 0 [] []).sim) (fun F0 H0 a0 => (he F0 H0 a0 s0 H0 0 [] []).sim))⟩
  · exact (hg B.F0 B.H0 B.a0 s H C cl fp).pg
  · exact (ht B.F0 B.H0 B.a0 s H C cl fp).pts
  · exact (he B.F0 B.H0 B.a0 s H C cl fp).pe
theorem ds_lcO {i : Nat} {y : Str} {py spos : Pos} (h : DS X B (.Assign [.Name y py] (.ListComp elt [⟨tg, iter, ifs, 0⟩] scope pos) spos) (tAsg (tLc wi g tt te' (own.map (·.2))) (gName i)) (dSetF i (dLc (own.map (·.2)) ti dg dt de)))
    (s : Sim B (tLc wi g tt te' (own.map (·.2))) (dLc (own.map (·.2)) ti dg dt de)) : DS X B (.Assign [.Name y py] (.ListComp elt [⟨tg, iter, ifs, 0⟩] scope pos) spos) (tAsg (tLc wi g tt te' (own.map (·.2))) (gName i)) (dSetO i (dLc (own.map (·.2)) ti dg dt de)) := ⟨h.ps, sim_setO s⟩
end
/-! ### for, while -/
def dForL (g : DGT) (tb : DST) (E : DEnds) : List D → En → Prop
  | [], ρ => E.nx ρ
  | d :: ds, ρ => g d ρ fun ρ1 => tb { E with nx := dForL g tb E ds, ct := dForL g tb E ds, bk := E.nx } ρ1
def dFor (ti : DIT) (g : DGT) (tb : DST) : DST := fun E ρ => ti ρ fun ds ρ1 => dForL g tb E ds ρ1
section
variable {X : Cx} {B : Bs} {tg iter : Expr} {body : List Stmt} {wi : TI} {g : TG} {tb : TS} {ti : DIT} {dg : DGT} {td : DST} {sl : List Nat} {pos : Pos}
theorem ds_for (hp : PassesOwn (model X.prog X.w) X.A X.env X.xe) (hc : X.calm = true) (hi : DI X B tg iter wi ti) (hg : DG X B tg sl g dg) (hb : DSs X B body tb td) (hs : ∀ x, foldedSetIterable iter X.env x = pure x := by intro _; rfl) :
    DS X B (.For tg iter body [] pos) (tFor wi g tb) (dFor ti dg td) := by
  refine ⟨ps_for hp hc hi.pi hg.pg hb.ps hs, fun F ρ σ H D E l w k => hi.sim F ρ σ H _ _ l w fun J ds F1 ρ1 H1 l1 s1 kp wd p => ?_⟩
  obtain ⟨G, Y, wk, hG, hY⟩ := wd.ex
  refine for_it wk (g := g) (tb := tb) (D := E) (fun i σ2 H2 => ∃ (F2 : Hp) (ρ2 : En), Rel B F2 ρ2 σ2 H2 ∧ Same F1 F2 ∧ dForL dg td D (ds.drop i) ρ2) ⟨F1, ρ1, l1, Same.refl _, p⟩ (fun i σ2 H2 _ ⟨F2, ρ2, l2, s2, _⟩ => hG F2 ρ2 σ2 H2 l2 s2) ?_ ?_
  · rintro i x σ2 H2 H3 hi' ⟨F2, ρ2, l2, s2, p2⟩ y
    obtain ⟨d, F3, ed, l3, s3, rv3, _, _⟩ := hY i F2 ρ2 σ2 H2 x H3 l2 s2 hi' y
    have hl := (List.getElem?_eq_some_iff.mp ed).1
    rw [List.drop_eq_getElem_cons hl, (List.getElem?_eq_some_iff.mp ed).2] at p2
    refine hg.sim F3 ρ2 σ2 H3 x d _ _ l3 rv3 p2 fun F4 ρ4 σ4 H4 l4 s4 o4 p4 => ?_
    refine hb.sim F4 ρ4 σ4 H4 _ _ l4 p4 ⟨fun F5 ρ5 σ5 H5 l5 s5 q => ⟨F5, ρ5, l5, s2.trans (s3.trans (s4.trans s5)), q⟩, k.rt, fun F5 ρ5 σ5 H5 l5 s5 q => k.nx F5 ρ5 σ5 H5 l5 (s1.trans (s2.trans (s3.trans (s4.trans s5)))) q, fun F5 ρ5 σ5 H5 l5 s5 q => ⟨F5, ρ5, l5, s2.trans (s3.trans (s4.trans s5)), q⟩⟩
  · rintro σ2 H2 ⟨F2, ρ2, l2, s2, p2⟩
    rw [List.drop_length] at p2
    exact k.nx F2 ρ2 σ2 H2 l2 (s1.trans s2) p2
def dWhile (c : DBT) (tb : DST) : DST := fun E ρ => ∃ W : Nat → En → Prop, (∃ m, W m ρ) ∧ ∀ m ρ, W m ρ → c ρ fun b ρ1 => if b = true then tb { E with nx := fun ρ2 => ∃ m', m' < m ∧ W m' ρ2, ct := fun ρ2 => ∃ m', m' < m ∧ W m' ρ2, bk := E.nx } ρ1 else E.nx ρ1
theorem ds_while {c : Expr} {tT : TT} {tc : DBT} (hp : PassesOwn (model X.prog X.w) X.A X.env X.xe) (hc : DTs X B c tT tc) (hb : DSs X B body tb td) : DS X B (.While c body [] pos) (tWhile tT tb) (dWhile tc td) := by
  refine ⟨ps_while hp hc.pt hb.ps, fun F ρ σ H D E l w k => ?_⟩
  obtain ⟨W, ⟨m, w0⟩, step⟩ := w
  refine ⟨fun m σ2 H2 => ∃ (F2 : Hp) (ρ2 : En), Rel B F2 ρ2 σ2 H2 ∧ Same F F2 ∧ W m ρ2, ⟨m, F, ρ, l, Same.refl _, w0⟩, ?_⟩
  rintro m σ2 H2 ⟨F2, ρ2, l2, s2, w2⟩
  refine hc.sim F2 ρ2 σ2 H2 _ _ l2 (step m ρ2 w2) fun b F3 ρ3 H3 l3 s3 kp p => ?_
  cases b with
  | false => exact k.nx F3 ρ3 σ2 H3 l3 (s2.trans s3) p
  | true =>
    refine ⟨fun σ4 H4 => ∃ m', m' < m ∧ ∃ (F2 : Hp) (ρ2 : En), Rel B F2 ρ2 σ4 H4 ∧ Same F F2 ∧ W m' ρ2, fun σ4 H4 q => q, ?_⟩
    refine hb.sim F3 ρ3 σ2 H3 _ _ l3 p ⟨fun F5 ρ5 σ5 H5 l5 s5 ⟨m', hm, q⟩ => ⟨m', hm, F5, ρ5, l5, s2.trans (s3.trans s5), q⟩, k.rt, fun F5 ρ5 σ5 H5 l5 s5 q => k.nx F5 ρ5 σ5 H5 l5 (s2.trans (s3.trans s5)) q, fun F5 ρ5 σ5 H5 l5 s5 ⟨m', hm, q⟩ => ⟨m', hm, F5, ρ5, l5, s2.trans (s3.trans s5), q⟩⟩
end
/-! ## a def keeps its promise -/
def startD (N : List Str) (ds : List D) : En := ds.map (fun d => some (OV.dat d)) ++ List.replicate (N.length - ds.length) none
theorem start_rel {B : Bs} {N : List Str} {vs : List V} {ds : List D} (h : BOk B) (a : RvA B.K B.hd B.F0 vs ds) : Rel B B.F0 (startD N ds) (L2.start N vs) B.H0 := by
  have hv := h.after
  have key : ∀ (i : Nat) (o : OV), (startD N ds)[i]? = some (some o) → ∃ d, o = .dat d ∧ ds[i]? = some d := fun i o e => by
    unfold startD at e
    by_cases hi : i < ds.length
    · rw [List.getElem?_append_left (by simpa using hi), List.getElem?_map] at e
      have e2 : ds[i]? = some ds[i] := by simp [hi]
      rw [e2] at e
      cases e
      exact ⟨_, rfl, e2⟩
    · rw [List.getElem?_append_right (by simpa using hi), List.getElem?_replicate] at e
      split at e <;> cases e
  refine ⟨by unfold startD L2.start; simp [a.len], h.sub, Same.refl _, hv.2.2.1, hv.2.2.2.1, hv.2.2.2.2, fun i o e => ?_, fun i j o o' v e e' w => ?_⟩
  · obtain ⟨d, rfl, ed⟩ := key i o e
    obtain ⟨v, ev, rv⟩ := a.get' ed
    refine ⟨v, ?_, rv⟩
    unfold L2.start
    have hl := (List.getElem?_eq_some_iff.mp ev).1
    rw [List.getElem?_append_left (by simpa using hl), List.getElem?_map, ev]
    rfl
  · obtain ⟨d, rfl, _⟩ := key i o e
    cases w
section
variable {P : Program} {w : World} {K : PySem.W.Frag} {mg : Str → Option Value} {base : Heap} {x qual : Str} {st : Stmt} {f : Addr} {fd : FuncData} {N ps : List Str} {k : Nat} {W : DW}
theorem sp_len (hlen : ∀ ds Q ex, W ds Q ex → ds.length = ps.length) : ∀ vs H Q E, spD K W vs H Q E → vs.length = ps.length := fun vs H Q E h => by
  obtain ⟨B, ds, P, ex, rfl, rfl, ok, a, w, _⟩ := h
  rw [a.len]
  exact hlen ds _ _ w
theorem sp_body {vs : List V} {Q : VK} {B : Bs} {ds : List D} {P' : R → Prop} {tS : TS} {t : DST} (ok : BOk B) (a : RvA B.K B.hd B.F0 vs ds) (hk : ∀ r v F' H', P' r → After B F' H' → RvC B F' H' v r → Q v H') (s : SimS B tS t)
    (w : t { nx := fun _ => P' (.dat .non), rt := P' } (startD N ds)) : tS { nx := fun _ H' => Q .non H', rt := Q } (L2.start N vs) B.H0 :=
  s B.F0 _ _ B.H0 _ _ (start_rel ok a) w ⟨fun F' ρ' σ' H' l _ p => hk _ _ F' H' p l.to .non, fun r v F' H' a rv p => hk r v F' H' p a rv, fun _ _ _ _ _ _ p => p.elim, fun _ _ _ _ _ _ p => p.elim⟩
theorem okD (F : Fun K x qual st f fd) (S : FnScope N ps (defScope st)) (hlen : ∀ ds Q ex, W ds Q ex → ds.length = ps.length)
    (hb : ∀ (cdv : Value) (A : Around) (outer : List PySem.Env) (s : Shared) (H : Hp) (E : XK), Room k (A.deeper (PyProof.Rows.envOfC qual (defScope st) s.heap.objs.size f cdv)) → ∀ (md : Option (Addr × Addr)) (F0 : Hp) (a0 : ∀ p, md = some p → H p.2 ≠ none),
      ∃ tS t, DSs (cxOf CX0 P w K mg base N qual (defScope st) f cdv A outer s H E).nox ⟨K, md, F0, H, a0⟩ (defBody st) tS t ∧ ∀ ds Q ex, W ds Q ex → t { nx := fun _ => Q (.dat .non), rt := Q } (startD N ds)) : FnOk P w K mg base CX0 (k + 1) f fd ps (spD K W) := by
  refine F.ok S (sp_len hlen) fun cdv A outer s H vs Q E hr h => ?_
  obtain ⟨⟨K', md, F0, H0, a0⟩, ds, P', ex, rfl, rfl, ok, a, w, hk, _⟩ := h
  obtain ⟨tS, t, d, q⟩ := hb cdv A outer s H0 E hr md F0 a0
  exact ⟨tS, d.ps, sp_body ok a hk d.sim (q ds P' ex w)⟩
theorem okDD {dvs : List V} {kws : List (Str × V)} (F : FunD K x qual (defArgs st) (defBody st) (defScope st) dvs kws f fd) (S : FnScope N ps (defScope st)) (hlen : ∀ ds Q ex, W ds Q ex → ds.length = ps.length)
    (hb : ∀ (cdv : Value) (A : Around) (outer : List PySem.Env) (s : Shared) (H : Hp) (E : XK), Room k (A.deeper (PyProof.Rows.envOfC qual (defScope st) s.heap.objs.size f cdv)) → ∀ (md : Option (Addr × Addr)) (F0 : Hp) (a0 : ∀ p, md = some p → H p.2 ≠ none),
      ∃ tS t, DSs (cxOf CX0 P w K mg base N qual (defScope st) f cdv A outer s H E) ⟨K, md, F0, H, a0⟩ (defBody st) tS t ∧ ∀ ds Q ex, W ds Q ex → t { nx := fun _ => Q (.dat .non), rt := Q } (startD N ds)) : FnOk P w K mg base CX0 (k + 1) f fd ps (spD K W) := by
  refine F.ok S (sp_len hlen) fun cdv A outer s H vs Q E hr h => ?_
  obtain ⟨⟨K', md, F0, H0, a0⟩, ds, P', ex, rfl, rfl, ok, a, w, hk, _⟩ := h
  obtain ⟨tS, t, d, q⟩ := hb cdv A outer s H0 E hr md F0 a0
  exact ⟨tS, d.ps, sp_body ok a hk d.sim (q ds P' ex w)⟩
theorem okDX (F : Fun K x qual st f fd) (S : FnScope N ps (defScope st)) (hlen : ∀ ds Q ex, W ds Q ex → ds.length = ps.length)
    (hb : ∀ (cdv : Value) (A : Around) (outer : List PySem.Env) (s : Shared) (H : Hp) (E : XK), Room k (A.deeper (PyProof.Rows.envOfC qual (defScope st) s.heap.objs.size f cdv)) → ∀ (md : Option (Addr × Addr)) (F0 : Hp) (a0 : ∀ p, md = some p → H p.2 ≠ none) (ex : EXD), LX ⟨K, md, F0, H, a0⟩ ex E →
      ∃ tS t, DSs (cxOf (L2.CX P w) P w K mg base N qual (defScope st) f cdv A outer s H E) ⟨K, md, F0, H, a0⟩ (defBody st) tS t ∧ ∀ ds Q, W ds Q ex → t { nx := fun _ => Q (.dat .non), rt := Q } (startD N ds)) : FnOk P w K mg base (L2.CX P w) (k + 1) f fd ps (spD K W) := by
  refine F.okX S (sp_len hlen) fun cdv A outer s H vs Q E hr h => ?_
  obtain ⟨⟨K', md, F0, H0, a0⟩, ds, P', ex, rfl, rfl, ok, a, w, hk, hl⟩ := h
  obtain ⟨tS, t, d, q⟩ := hb cdv A outer s H0 E hr md F0 a0 ex hl
  exact ⟨tS, d.ps, sp_body ok a hk d.sim (q ds P' w)⟩
end
end Z

set_option Elab.async false
set_option linter.all false
set_option maxRecDepth 100000
namespace Z
open PySem L2
/-! ## lists that names own -/
section
variable {B : Bs} {F F' H H' : Hp} {ρ ρ' : En} {σ : L2.St}
theorem set_same_get {α : Type} {l : List α} {i : Nat} {x : α} (e : l[i]? = some x) : l.set i x = l := by
  refine List.ext_getElem? fun j => ?_
  by_cases hj : j = i
  · subst hj
    rw [List.getElem?_set_self (List.getElem?_eq_some_iff.mp e).1, e]
  · rw [List.getElem?_set_ne (Ne.symm hj)]
/-- an own object changes -/
theorem Rel.mutO (l : Rel B F ρ σ H) {i : Nat} {o : OV} (e : ρ[i]? = some (some o)) (w : o.isOwn = true) {p : Addr} (es : σ[i]? = some (some (.ref p))) {u : HO} {o' : OV} (h : RvO B F (L2.upd H p u) (.ref p) o') : Rel B F (ρ.set i (some o')) σ (L2.upd H p u) := by
  obtain ⟨p', u', e1, h1, n, n0, _⟩ := l.own e w
  rw [es] at e1
  cases e1
  have ne : ∀ (j : Nat) (o2 : OV), (ρ.set i none)[j]? = some (some o2) → o2.isOwn = true → σ[j]? ≠ some (some (V.ref p)) := fun j o2 e2 w2 z => by
    rcases get_set e2 with ⟨_, q, _⟩ | ⟨hj, q⟩
    · cases q
    · exact hj (l.ap j i o2 o _ q e w2 w z es)
  have l2 := ((l.drop i).upd (u := u) n n0 ne).set (i := i) (v := .ref p) (o := o') h fun _ j o2 e2 w2 => ne j o2 e2 w2
  rw [set_same_get es, set_none_some] at l2
  exact l2
theorem Rel.mutL (l : Rel B F ρ σ H) {i : Nat} {ds : List D} (e : ρ[i]? = some (some (.own ds))) : ∃ p vs, σ[i]? = some (some (.ref p)) ∧ H p = some (.lst vs) ∧ RvA B.K B.hd F vs ds ∧ ∀ vs' ds', RvA B.K B.hd F vs' ds' → Rel B F (ρ.set i (some (.own ds'))) σ (L2.upd H p (.lst vs')) := by
  obtain ⟨v, es, p, vs, rfl, h1, h2, n, n0⟩ := l.var i _ e
  exact ⟨p, vs, es, h1, h2, fun vs' ds' a => l.mutO e rfl es ⟨p, vs', rfl, upd_same, a, n, n0⟩⟩
theorem Kp.set {i : Nat} {o o' : OV} (e : ρ[i]? = some (some o)) : Kp ρ (ρ.set i (some o')) := fun j o2 e2 => by
  by_cases hj : j = i
  · subst hj
    exact ⟨o', List.getElem?_set_self (List.getElem?_eq_some_iff.mp e2).1⟩
  · exact ⟨o2, by rw [List.getElem?_set_ne (Ne.symm hj)]; exact e2⟩
end
def isOwnL (ρ : En) (i : Nat) : Prop := match ρ[i]? with
  | some (some (.own _)) => True
  | _ => False
theorem isOwnL_of {ρ : En} {i : Nat} (h : isOwnL ρ i) : ∃ ds, ρ[i]? = some (some (.own ds)) := by
  unfold isOwnL at h
  match e : ρ[i]?, h with
  | some (some (.own ds)), _ => exact ⟨ds, rfl⟩
/-- with what the slot owns -/
def ownAt (ρ : En) (i : Nat) (P : List D → Prop) : Prop := match ρ[i]? with
  | some (some (.own ds)) => P ds
  | _ => False
theorem ownAt_of {ρ : En} {i : Nat} {P : List D → Prop} (h : ownAt ρ i P) : ∃ ds, ρ[i]? = some (some (.own ds)) ∧ P ds := by
  unfold ownAt at h
  match e : ρ[i]?, h with
  | some (some (.own ds)), h => exact ⟨ds, rfl, h⟩
def dApp (i : Nat) (te : DT) : DT := fun ρ P => isOwnL ρ i ∧ te ρ fun r ρ1 => ownAt (mvE ρ1 r) i fun ds => ds.length < sizeLine ∧ P (.dat .non) ((mvE ρ1 r).set i (some (.own (ds ++ [vl ρ1 r]))))
def dExt (i : Nat) (te : DT) : DT := fun ρ P => isOwnL ρ i ∧ te ρ fun r ρ1 => ownAt (mvE ρ1 r) i fun ds => ∃ es, vl ρ1 r = .lst es ∧ ds.length + es.length ≤ sizeLine ∧ P (.dat .non) ((mvE ρ1 r).set i (some (.own (ds ++ es))))
def R63 (i : Int) : Prop := -(2 ^ 63) ≤ i ∧ i < 2 ^ 63
def dPop (i : Nat) (te : DT) : DT := fun ρ P => isOwnL ρ i ∧ te ρ fun r ρ1 => ownAt ρ1 i fun ds => ∃ j k d, r = .dat (.int j) ∧ R63 j ∧ seqIndex? j ds.length = some k ∧ ds[k]? = some d ∧ P (.dat d) (ρ1.set i (some (.own (ds.eraseIdx k))))
section
variable {X : Cx} {B : Bs} {o e : Expr} {tE : TE} {te : DT} {i : Nat} {apos cpos : Pos}
theorem own_ty {F H : Hp} {ρ : En} {σ : L2.St} (l : Rel B F ρ σ H) (h : isOwnL ρ i) : ∃ p, σ[i]? = some (some (.ref p)) ∧ tyV B.K "list" (.ref p) H := by
  obtain ⟨ds, e⟩ := isOwnL_of h
  obtain ⟨p, vs, es, h1, _⟩ := l.mutL e
  exact ⟨p, es, .inl ⟨rfl, _, SqL.of h1⟩⟩
theorem de_append (ho : PE X o (tVar i)) (h : DE X B e tE te) (hK : X.K = B.K := by rfl) (hbase : attributeBase o "append" X.env (eval o X.env) = eval o X.env := by rfl)
    (hfew : ((backTo cpos (starEach [e] X.env)).all (fun x => !x.1) && (backToKw cpos (keywordEach [] X.env)).all (fun x => x.1.isSome) && decide ([e].length + ([] : List Keyword).length + (if ([] : List Keyword).isEmpty then 0 else 1) < 30)) = true := by rfl)
    (hline : (apos.endLine == cpos.line) = true := by rfl) (hs : starEach [e] X.env = (false, eval e X.env) :: starEach [] X.env := by rfl) (hpl : (backTo cpos (starEach [] X.env)).any (·.1) = false := by rfl) :
    DE X B (.Call (.Attribute o "append" apos) [e] [] cpos) (tBM B.K "list" rAppend (tVar i) (tCons tE tNil)) (dApp i te) := by
  refine ⟨by rw [← hK]; exact pe_bm PySem.F.plainAttrs_list PySem.F.slot_list_append PySem.F.type_list_append mt_append ho (pa_cons h.pe pa_nil hs) hbase hfew hline hs hpl, fun F ρ σ H P Q l w k => ?_⟩
  obtain ⟨p, es, ty⟩ := own_ty l w.1
  refine ⟨_, es, ty, h.sim.frz F ρ σ H _ _ l w.2 fun r v F' ρ' H' l' s kp rv q => ?_⟩
  obtain ⟨F2, s2, l2, v2⟩ := l'.mv rv
  obtain ⟨ds, e1, hz, q⟩ := ownAt_of q
  obtain ⟨p', vs, es', h1, h2, m⟩ := l2.mutL e1
  rw [es] at es'
  cases es'
  refine ⟨p, vs, v, rfl, rfl, h1, by rw [h2.len]; exact hz, ?_⟩
  exact k (.dat .non) .non F2 _ _ (m _ _ (h2.app (.cons v2 .nil))) (s.trans s2) (kp.trans (Kp.mv.trans (Kp.set e1))) .non q
theorem de_extend (ho : PE X o (tVar i)) (h : DE X B e tE te) (hK : X.K = B.K := by rfl) (hbase : attributeBase o "extend" X.env (eval o X.env) = eval o X.env := by rfl)
    (hfew : ((backTo cpos (starEach [e] X.env)).all (fun x => !x.1) && (backToKw cpos (keywordEach [] X.env)).all (fun x => x.1.isSome) && decide ([e].length + ([] : List Keyword).length + (if ([] : List Keyword).isEmpty then 0 else 1) < 30)) = true := by rfl)
    (hline : (apos.endLine == cpos.line) = true := by rfl) (hs : starEach [e] X.env = (false, eval e X.env) :: starEach [] X.env := by rfl) (hpl : (backTo cpos (starEach [] X.env)).any (·.1) = false := by rfl) :
    DE X B (.Call (.Attribute o "extend" apos) [e] [] cpos) (tBM B.K "list" rExtend (tVar i) (tCons tE tNil)) (dExt i te) := by
  refine ⟨by rw [← hK]; exact pe_bm PySem.F.plainAttrs_list PySem.F.slot_list_extend PySem.F.type_list_extend mt_extend ho (pa_cons h.pe pa_nil hs) hbase hfew hline hs hpl, fun F ρ σ H P Q l w k => ?_⟩
  obtain ⟨p, es, ty⟩ := own_ty l w.1
  refine ⟨_, es, ty, h.sim.frz F ρ σ H _ _ l w.2 fun r v F' ρ' H' l' s kp rv q => ?_⟩
  obtain ⟨F2, s2, l2, v2⟩ := l'.mv rv
  obtain ⟨ds, e1, fs, ev, hz, q⟩ := ownAt_of q
  obtain ⟨p', vs, es', h1, h2, m⟩ := l2.mutL e1
  rw [es] at es'
  cases es'
  rw [ev] at v2
  cases v2 with
  | lst a1 a2 =>
    refine ⟨p, _, vs, _, rfl, rfl, h1, l2.sub _ _ a1, by rw [h2.len, a2.len]; exact hz, ?_⟩
    exact k (.dat .non) .non F2 _ _ (m _ _ (h2.app a2)) (s.trans s2) (kp.trans (Kp.mv.trans (Kp.set e1))) .non q
theorem de_pop (ho : PE X o (tVar i)) (h : DE X B e tE te) (hK : X.K = B.K := by rfl) (hbase : attributeBase o "pop" X.env (eval o X.env) = eval o X.env := by rfl)
    (hfew : ((backTo cpos (starEach [e] X.env)).all (fun x => !x.1) && (backToKw cpos (keywordEach [] X.env)).all (fun x => x.1.isSome) && decide ([e].length + ([] : List Keyword).length + (if ([] : List Keyword).isEmpty then 0 else 1) < 30)) = true := by rfl)
    (hline : (apos.endLine == cpos.line) = true := by rfl) (hs : starEach [e] X.env = (false, eval e X.env) :: starEach [] X.env := by rfl) (hpl : (backTo cpos (starEach [] X.env)).any (·.1) = false := by rfl) :
    DE X B (.Call (.Attribute o "pop" apos) [e] [] cpos) (tBM B.K "list" rPopAt (tVar i) (tCons tE tNil)) (dPop i te) := by
  refine ⟨by rw [← hK]; exact pe_bm PySem.F.plainAttrs_list PySem.F.slot_list_pop PySem.F.type_list_pop mt_popAt ho (pa_cons h.pe pa_nil hs) hbase hfew hline hs hpl, fun F ρ σ H P Q l w k => ?_⟩
  obtain ⟨p, es, ty⟩ := own_ty l w.1
  refine ⟨_, es, ty, h.sim F ρ σ H _ _ l w.2 fun r v F' ρ' H' l' s kp rv q => ?_⟩
  obtain ⟨ds, e1, j, kk, d, rfl, r63, hj, hd, q⟩ := ownAt_of q
  obtain ⟨p', vs, es', h1, h2, m⟩ := l'.mutL e1
  rw [es] at es'
  cases es'
  cases rv
  obtain ⟨y, ey, ry⟩ := h2.get' hd
  refine ⟨p, vs, j, kk, y, rfl, rfl, h1, r63.1, r63.2, by rw [h2.len]; exact hj, ey, ?_⟩
  exact k (.dat d) y F' _ _ (m _ _ (h2.erase kk)) s (kp.trans (Kp.set e1)) ry q
end
/-! ### some built-ins by values -/
section
variable {X : Cx} {B : Bs}
def dInt : List D → (R → Prop) → Prop
  | [.int i], P => P (.dat (.int i))
  | [.bl b], P => P (.dat (.int (if b then 1 else 0)))
  | _, _ => False
theorem cad_int : CaD B (fun xs H Q => (∃ i, xs = [V.int i] ∧ Q (.int i) H) ∨ ∃ k, xs = [V.bl k] ∧ Q (.int (if k then 1 else 0)) H) dInt := by
  intro F ρ σ H xs ds P Q l a w k
  match ds, w with
  | [.int i], w =>
    obtain ⟨v, rfl, r⟩ := a.one
    cases r
    exact .inl ⟨i, rfl, k (.dat _) _ F H l (Same.refl _) (.int _) w⟩
  | [.bl b], w =>
    obtain ⟨v, rfl, r⟩ := a.one
    cases r
    exact .inr ⟨b, rfl, k (.dat _) _ F H l (Same.refl _) (.int _) w⟩
def dAbs : List D → (R → Prop) → Prop
  | [.int i], P => P (.dat (.int (if i < 0 then -i else i)))
  | _, _ => False
theorem cad_abs : CaD B (fun xs H Q => ∃ i, xs = [V.int i] ∧ Q (.int (if i < 0 then -i else i)) H) dAbs := by
  intro F ρ σ H xs ds P Q l a w k
  match ds, w with
  | [.int i], w =>
    obtain ⟨v, rfl, r⟩ := a.one
    cases r
    exact ⟨i, rfl, k (.dat _) _ F H l (Same.refl _) (.int _) w⟩
theorem RvA.bls {K : PySem.W.Frag} {hd : Option Addr} {F : Hp} : ∀ {bs : List Bool} {vs : List V}, RvA K hd F vs (bs.map D.bl) → vs = bs.map V.bl
  | [], _, h => by cases h; rfl
  | n :: ns, _, h => by
    cases h with
    | cons a b =>
      cases a
      rw [RvA.bls b]
      rfl
def dAny (all : Bool) (ds : List D) (P : R → Prop) : Prop := ∃ bs : List Bool, ds = [.lst (bs.map D.bl)] ∧ P (.dat (.bl (if all then bs.all id else bs.any id)))
theorem kall (K : PySem.W.Frag) (hc : X.calm = true) (h : X.K = K := by rfl) : CallR X (.builtin "all") (rAll K) := by
  rw [← h]
  exact cr_all hc
theorem ksum (K : PySem.W.Frag) (hc : X.calm = true) (h : X.K = K := by rfl) : CallR X (.builtin "sum") (rSum K) := by
  rw [← h]
  exact cr_sum hc
theorem cad_any : CaD B (rAny B.K) (dAny false) := by
  intro F ρ σ H xs ds P Q l a ⟨bs, e, w⟩ k
  subst e
  obtain ⟨v, rfl, r⟩ := a.one
  cases r with
  | lst a1 a2 =>
    obtain rfl := a2.bls
    exact ⟨_, bs, rfl, SqL.of (l.sub _ _ a1), k (.dat _) _ F H l (Same.refl _) (.bl _) w⟩
theorem cad_all : CaD B (rAll B.K) (dAny true) := by
  intro F ρ σ H xs ds P Q l a ⟨bs, e, w⟩ k
  subst e
  obtain ⟨v, rfl, r⟩ := a.one
  cases r with
  | lst a1 a2 =>
    obtain rfl := a2.bls
    exact ⟨_, bs, rfl, SqL.of (l.sub _ _ a1), k (.dat _) _ F H l (Same.refl _) (.bl _) w⟩
def dSum (ds : List D) (P : R → Prop) : Prop := ∃ ns : List Int, ds = [.lst (ns.map D.int)] ∧ P (.dat (.int ns.sum))
theorem cad_sum : CaD B (rSum B.K) dSum := by
  intro F ρ σ H xs ds P Q l a ⟨ns, e, w⟩ k
  subst e
  obtain ⟨v, rfl, r⟩ := a.one
  cases r with
  | lst a1 a2 =>
    obtain rfl := a2.ints
    exact ⟨_, ns, rfl, SqL.of (l.sub _ _ a1), k (.dat _) _ F H l (Same.refl _) (.int _) w⟩
/-! ### list[int] * n -/
def dRep : D → D → (R → Prop) → Prop
  | .lst ds, .int k, P => R63 k ∧ ds.length * k.toNat ≤ sizeLine ∧ P (.new (List.replicate k.toNat ds).flatten)
  | _, _, _ => False
theorem rva_rep {K : PySem.W.Frag} {hd : Option Addr} {F : Hp} {vs : List V} {ds : List D} (h : RvA K hd F vs ds) : ∀ n : Nat, RvA K hd F (List.replicate n vs).flatten (List.replicate n ds).flatten
  | 0 => .nil
  | n + 1 => by
    rw [List.replicate_succ, List.replicate_succ, List.flatten_cons, List.flatten_cons]
    exact h.app (rva_rep h n)
theorem opd_rep : OpD B rRep dRep := by
  intro F ρ σ H x y dx dy P Q l a b w k
  cases dx <;> cases dy <;> first | exact w.elim | skip
  cases a with
  | lst a1 a2 =>
    cases b
    obtain ⟨w1, w2, w3⟩ := w
    refine ⟨_, _, _, rfl, rfl, l.sub _ _ a1, w1.1, w1.2, by rw [a2.len]; exact w2, fun p np => ?_⟩
    obtain ⟨l3, n3⟩ := l.newL np (rva_rep a2 _)
    exact k (.new _) _ _ _ l3 (Same.refl _) n3 w3
/-! ### xs.index(x) of flat items -/
theorem RvA.atV {K : PySem.W.Frag} {hd : Option Addr} {F : Hp} {ds : List D} {vs : List V} (h : RvA K hd F vs ds) (f : ds.all flatD = true) (j : Nat) : vs[j]? = (ds[j]?).map vOf := by
  rw [(h.flat f).1, List.getElem?_map]
end
end Z

set_option Elab.async false
set_option linter.all false
set_option maxRecDepth 100000
namespace Z
open PySem L2
/-! ## tuples that are known to be plain: made out of a list -/
theorem call_tupX {X : Cx} : CallR X (.type "tuple") (fun xs H Q => ∃ p ys, xs = [.ref p] ∧ ((H p = some (.lst ys) ∧ ∀ l o, H l = none → o.dict = none → Q (.ref l) (L2.upd H l (.frz o (.tup ys)))) ∨ (SqT X.K H p ys ∧ Q (.ref p) H))) := by
  intro pins s σ H xs us Q I r h
  obtain ⟨p, ys, rfl, ⟨hp, q⟩ | ⟨hq, q⟩⟩ := h
  · cases r with
    | cons r1 r2 =>
      cases r2
      cases r1
      obtain ⟨its, rv, pl, hz⟩ := I.list (SqL.of hp)
      refine PySem.call_tuple_list pl.isList (fun h' hk => ?_) (by rw [List.size_toArray, ← rv.length]; exact hz)
      have I1 : Inv X pins σ H { s with heap := h' } := I.kept (t' := s.toks) hk
      have I2 := I1.laid (t' := s.toks) (o := .frz { cls := .type "tuple", data := .seq its.toArray } (.tup ys)) (h' := h'.push { cls := .type "tuple", data := .seq its.toArray }) (a := h'.objs.size) (fun b o e => Heap.get?_push_of_some _ e) (Nat.le_refl _)
        ⟨Heap.get?_push_size _ rfl, hz, its, rv, ⟨_, Heap.get?_push_size _ rfl, rfl, _, rfl⟩⟩
      exact ⟨.ref h'.objs.size, _, I2, rfl, q _ _ (I1.hok.fresh (Nat.le_refl _)) rfl⟩
  · exact call_tuple_of pins s σ H _ us Q I r ⟨p, ys, rfl, .inr ⟨hq, q⟩⟩
def rTupX (K : PySem.W.Frag) : List V → Hp → VK → Prop := fun xs H Q => ∃ p ys, xs = [.ref p] ∧ ((H p = some (.lst ys) ∧ ∀ l o, H l = none → o.dict = none → Q (.ref l) (L2.upd H l (.frz o (.tup ys)))) ∨ (SqT K H p ys ∧ Q (.ref p) H))
theorem ktupX {X : Cx} (K : PySem.W.Frag) (h : X.K = K := by rfl) : CallR X (.type "tuple") (rTupX K) := by
  rw [← h]
  exact call_tupX
def tpxOfD : D → Option D
  | .lst ds => some (.tpx ds)
  | .tup ds => some (.tup ds)
  | .tpx ds => some (.tpx ds)
  | _ => none
def dTupX : List D → (R → Prop) → Prop
  | [a], P => match tpxOfD a with
    | some d => P (.dat d)
    | none => False
  | _, _ => False
theorem cad_tupX {B : Bs} : CaD B (rTupX B.K) dTupX := by
  intro F ρ σ H xs ds P Q l a w k
  match ds, w with
  | [d], w =>
    obtain ⟨v, rfl, r⟩ := a.one
    cases d <;> first | exact w.elim | skip
    · cases r with
      | lst a1 a2 =>
        refine ⟨_, _, rfl, .inl ⟨l.sub _ _ a1, fun q o nq ho => ?_⟩⟩
        obtain ⟨l3, s3⟩ := l.newF (u := .frz o (.tup _)) nq
        exact k (.dat (.tpx _)) _ _ _ l3 s3 (Rv.tpx upd_same ho (a2.mono s3)) w
    · cases r with
      | tup a1 a2 => exact ⟨_, _, rfl, .inr ⟨Same.sqT l.sub a1, k (.dat (.tup _)) _ F H l (Same.refl _) (Rv.tup a1 a2) w⟩⟩
    · cases r with
      | tpx a1 e1 a2 => exact ⟨_, _, rfl, .inr ⟨.inl (.inr ⟨_, l.sub _ _ a1⟩), k (.dat (.tpx _)) _ F H l (Same.refl _) (Rv.tpx a1 e1 a2) w⟩⟩
/-! ## index of a list, of a plain tuple -/
def rIdxT (K : PySem.W.Frag) (p : Addr) (y : V) (H : Hp) (Q : VK) : Prop := ∃ (ys : List V) (j : Nat) (z : V), SqT K H p ys ∧ flatV y = true ∧ ys.all flatV = true ∧ ys[j]? = some z ∧ eqV z y = true ∧ (∀ (m : Nat) (z' : V), m < j → ys[m]? = some z' → eqV z' y = false) ∧ Q (.int (j : Nat)) H
theorem tup_index {X : Cx} {pins : List (Addr × Obj)} {s : Shared} {σ : L2.St} {H : Hp} {p : Addr} {y : V} {uy : Value} {Q : VK} (I : Inv X pins σ H s) (ry : RelV y uy) (h : rIdxT X.K p y H Q) :
    wpAny (model X.prog X.w) X.A (call (.builtin "tuple.index") [.ref p, uy]) (EP X pins σ Q) X.xe s := by
  obtain ⟨ys, j, z, hq, fy, fys, hz, hzj, hno, q⟩ := h
  obtain ⟨its, rv, pl, hl⟩ := I.tuple hq
  obtain ⟨⟨cls, dd, dt, sl⟩, ho, hc, n, hd⟩ := pl
  simp only at hc hd
  subst hc
  subst hd
  have get : ∀ (m : Nat) (hm : m < its.toArray.size), ∃ v, ys[m]? = some v ∧ eqU y its.toArray[m] = eqV v y := fun m hm => by
    have hm2 : m < ys.length := by rw [rv.length]; simpa using hm
    have e1 : ys[m]? = some ys[m] := List.getElem?_eq_getElem hm2
    obtain ⟨u, hu, ru⟩ := rv.get e1
    refine ⟨_, e1, ?_⟩
    have e2 : its.toArray[m] = u := by
      have := (List.getElem?_eq_some_iff.mp hu).2
      simpa using this
    rw [e2]
    exact eqU_of ru (flat_at fys e1)
  have hj : j < its.toArray.size := by
    have := (List.getElem?_eq_some_iff.mp hz).1
    rw [rv.length] at this
    simpa using this
  refine call_meets PySem.F.slot_tuple_index ⟨_, ho, rfl⟩ PySem.F.entry_tuple_index (PySem.F.args_tuple_index_2 _ _) (TI.tuple_indexAt p its.toArray n dd sl uy (eqU y) j hj ?_ ?_)
    ⟨ho, fun u' hu' => mem_eqAt ry fy rv fys u' (by simpa using hu'), ⟨.int (j : Nat), H, I.tok _, ⟨_, rfl⟩, q⟩⟩
  · obtain ⟨v, e1, e2⟩ := get j hj
    rw [hz] at e1
    cases e1
    rw [e2]
    exact hzj
  · intro m hm hmj
    obtain ⟨v, e1, e2⟩ := get m hm
    rw [e2]
    exact hno m v hmj e1
def tIdxA (K : PySem.W.Frag) (tA tB : TE) : TE := fun σ H Q => tA σ H fun x H1 => ∃ p, x = .ref p ∧ (((∃ xs, SqL K H1 p xs) ∧ tB σ H1 fun y H2 => rIndex K (.ref p) [y] H2 Q) ∨ ((∃ o xs, H1 p = some (.frz o (.tup xs)) ∧ o.dict = none) ∧ tB σ H1 fun y H2 => rIdxT K p y H2 Q))
theorem pe_idxA {X : Cx} {a b : Expr} {tA tB : TE} {apos cpos : Pos} (ha : PE X a tA) (hb : PE X b tB) (hbase : attributeBase a "index" X.env (eval a X.env) = eval a X.env)
    (hfew : ((backTo cpos (starEach [b] X.env)).all (fun x => !x.1) && (backToKw cpos (keywordEach [] X.env)).all (fun x => x.1.isSome) && decide ([b].length + ([] : List Keyword).length + (if ([] : List Keyword).isEmpty then 0 else 1) < 30)) = true)
    (hline : (apos.endLine == cpos.line) = true) (hs : starEach [b] X.env = (false, eval b X.env) :: starEach [] X.env) (hpl : (backTo cpos (starEach [] X.env)).any (·.1) = false) : PE X (.Call (.Attribute a "index" apos) [b] [] cpos) (tIdxA X.K tA tB) := by
  refine ⟨fun pins s σ H Q I h => ?_⟩
  refine wpAny_Call_method_late hbase hfew hline rfl (thn (ha.run pins s σ H _ I h) fun v s1 ⟨x, H1, I1, r1, p, ex, q1⟩ => ?_)
  subst ex
  obtain rfl : v = .ref p := r1
  have hargs : ∀ {id : String} {T : V → Hp → Prop}, tB σ H1 T → (∀ uy y s2 H2, Inv X pins σ H2 s2 → RelV y uy → T y H2 → wpAny (model X.prog X.w) X.A (call (.builtin id) [.ref p, uy]) (EP X pins σ Q) X.xe s2) →
      wpAny (model X.prog X.w) X.A (callWith cpos (.builtin id) [.ref p] (backTo cpos (starEach [b] X.env)) (backToKw cpos (keywordEach [] X.env))) (EP X pins σ Q) X.xe s1 := fun {id T} w k => by
    have hA := one_arg (pos := cpos) (Q := fun us s2 => wpAny (model X.prog X.w) X.A (call (.builtin id) (.ref p :: us)) (EP X pins σ Q) X.xe s2) hb I1 w (fun u s2 y H2 I2 ry q => k u y s2 H2 I2 ry q) hs
    rw [hs] at hA ⊢
    exact Calls.callWith_builtin (by show (false || (backTo cpos (starEach [] X.env)).any (·.1)) = false; rw [hpl] <;> rfl) (Calls.evalArgs_plain hA)
  rcases q1 with ⟨⟨xs, hl⟩, q⟩ | ⟨⟨o, xs, hl, hd⟩, q⟩
  · obtain ⟨its, rv, pl, _⟩ := I1.list hl
    refine ⟨"list", "list.index", PySem.F.plainAttrs_list, PySem.F.slot_list_index, PySem.F.type_list_index, pl.isList.typeIs, fun a e => ?_, hargs q fun uy y s2 H2 I2 ry h => ?_⟩
    · cases e
      obtain ⟨o, n, e, c, hd, _⟩ := pl
      exact ⟨o, e, hd⟩
    · exact mt_index pins s2 σ H2 (.ref p) [y] (.ref p) [uy] Q I2 rfl (.cons ry .nil) h
  · have ok := I1.hok p _ hl
    obtain ⟨ho, _, its, rv, pl⟩ := ok
    refine ⟨"tuple", "tuple.index", PySem.F.plainAttrs_tuple, PySem.F.slot_tuple_index, PySem.F.type_tuple_index, ?_, fun a e => ?_, hargs q fun uy y s2 H2 I2 ry h => tup_index I2 ry h⟩
    · obtain ⟨o2, e2, c2, _⟩ := pl
      exact ⟨o2, e2, c2⟩
    · cases e
      exact ⟨o, ho, hd⟩
def IdxAt (ds : List D) (a : D) (j : Nat) : Prop := flatD a = true ∧ ds.all flatD = true ∧ ∃ z, ds[j]? = some z ∧ eqV (vOf z) (vOf a) = true ∧ ∀ m z', m < j → ds[m]? = some z' → eqV (vOf z') (vOf a) = false
def dIdx (ta tb : DT) : DT := fun ρ P => ta ρ fun r1 ρ1 => (∃ es, vl ρ1 r1 = .lst es ∧ tb ρ1 fun r2 ρ2 => ∃ ds j, vl ρ2 r1 = .lst ds ∧ IdxAt ds (vl ρ2 r2) j ∧ P (.dat (.int (j : Nat))) ρ2) ∨
  (∃ es, vl ρ1 r1 = .tpx es ∧ tb ρ1 fun r2 ρ2 => ∃ ds j, vl ρ2 r1 = .tpx ds ∧ IdxAt ds (vl ρ2 r2) j ∧ P (.dat (.int (j : Nat))) ρ2)
theorem kidxA {X : Cx} {a b : Expr} {tA tB : TE} {apos cpos : Pos} (K : PySem.W.Frag) (hK : X.K = K) (h : PE X (.Call (.Attribute a "index" apos) [b] [] cpos) (tIdxA X.K tA tB)) : PE X (.Call (.Attribute a "index" apos) [b] [] cpos) (tIdxA K tA tB) := by
  subst hK
  exact h
theorem idx_at {K : PySem.W.Frag} {hd : Option Addr} {F : Hp} {vs : List V} {ds : List D} {v : V} {a : D} {j : Nat} (h : RvA K hd F vs ds) (ha : Rv K hd F v a) (q : IdxAt ds a j) : ∃ z, flatV v = true ∧ vs.all flatV = true ∧ vs[j]? = some z ∧ eqV z v = true ∧ ∀ (m : Nat) (z' : V), m < j → vs[m]? = some z' → eqV z' v = false := by
  obtain ⟨q1, q2, z, q3, q4, q5⟩ := q
  obtain ⟨rfl, f1⟩ := ha.flat q1
  obtain ⟨rfl, f2⟩ := h.flat q2
  refine ⟨vOf z, f1, f2, by rw [List.getElem?_map, q3]; rfl, q4, fun m z' hm e => ?_⟩
  rw [List.getElem?_map] at e
  cases e1 : ds[m]? with
  | none => rw [e1] at e; cases e
  | some y =>
    rw [e1] at e
    cases e
    exact q5 m y hm e1
theorem nn_fz {r : R} : ∀ ds, fz r ≠ .new ds := by
  intro ds
  cases r <;> (intro z; cases z)
theorem de_index (K : PySem.W.Frag) {X : Cx} {B : Bs} {a b : Expr} {tA tB : TE} {ta tb : DT} {apos cpos : Pos} (ha : DE X B a tA ta) (hb : DE X B b tB tb) (hK : X.K = K := by rfl) (hB : B.K = K := by rfl) (hbase : attributeBase a "index" X.env (eval a X.env) = eval a X.env := by rfl)
    (hfew : ((backTo cpos (starEach [b] X.env)).all (fun x => !x.1) && (backToKw cpos (keywordEach [] X.env)).all (fun x => x.1.isSome) && decide ([b].length + ([] : List Keyword).length + (if ([] : List Keyword).isEmpty then 0 else 1) < 30)) = true := by rfl)
    (hline : (apos.endLine == cpos.line) = true := by rfl) (hs : starEach [b] X.env = (false, eval b X.env) :: starEach [] X.env := by rfl) (hpl : (backTo cpos (starEach [] X.env)).any (·.1) = false := by rfl) :
    DE X B (.Call (.Attribute a "index" apos) [b] [] cpos) (tIdxA K tA tB) (dIdx ta tb) := by
  subst hB
  refine ⟨kidxA B.K hK (pe_idxA ha.pe hb.pe hbase hfew hline hs hpl), fun F ρ σ H P Q l w k => ha.sim.frz F ρ σ H _ _ l w fun r1 v1 F1 ρ1 H1 l1 s1 k1 rv1 p => ?_⟩
  have v1' := l1.val rv1 nn_fz
  rw [vl_fz] at v1'
  have next : ∀ {r2 : R} {v2 : V} {F2 : Hp} {ρ2 : En} {H2 : Hp}, Rel B F2 ρ2 σ H2 → Same F1 F2 → Kp ρ1 ρ2 → RvR B F2 ρ2 σ H2 v2 (fz r2) → Rv B.K B.hd (Z.lend F2 ρ2 σ H2) v1 (vl ρ2 r1) ∧ Rv B.K B.hd (Z.lend F2 ρ2 σ H2) v2 (vl ρ2 r2) := fun {r2 v2 F2 ρ2 H2} l2 s2 k2 rv2 => by
    have q1 := l2.val (RvR.mono rv1 s2 k2) nn_fz
    have q2 := l2.val rv2 nn_fz
    rw [vl_fz] at q1 q2
    exact ⟨q1, q2⟩
  rcases p with ⟨es, e1, p⟩ | ⟨es, e1, p⟩
  · rw [e1] at v1'
    cases v1' with
    | lst a1 a2 =>
      refine ⟨_, rfl, .inl ⟨⟨_, SqL.of (l1.lend.sub _ _ a1)⟩, hb.sim.frz F1 ρ1 σ H1 _ _ l1 p fun r2 v2 F2 ρ2 H2 l2 s2 k2 rv2 ⟨ds, j, e2, ix, q⟩ => ?_⟩⟩
      obtain ⟨q1, q2⟩ := next l2 s2 k2 rv2
      rw [e2] at q1
      cases q1 with
      | lst b1 b2 =>
        obtain ⟨z, f1, f2, f3, f4, f5⟩ := idx_at b2 q2 ix
        exact ⟨_, _, _, j, z, rfl, rfl, SqL.of (l2.lend.sub _ _ b1), f1, f2, f3, f4, f5, k (.dat _) _ F2 ρ2 H2 l2 (s1.trans s2) (k1.trans k2) (.int _) q⟩
  · rw [e1] at v1'
    cases v1' with
    | tpx a1 e9 a2 =>
      refine ⟨_, rfl, .inr ⟨⟨_, _, l1.lend.sub _ _ a1, e9⟩, hb.sim.frz F1 ρ1 σ H1 _ _ l1 p fun r2 v2 F2 ρ2 H2 l2 s2 k2 rv2 ⟨ds, j, e2, ix, q⟩ => ?_⟩⟩
      obtain ⟨q1, q2⟩ := next l2 s2 k2 rv2
      rw [e2] at q1
      cases q1 with
      | tpx b1 _ b2 =>
        obtain ⟨z, f1, f2, f3, f4, f5⟩ := idx_at b2 q2 ix
        exact ⟨_, j, z, .inl (.inr ⟨_, l2.lend.sub _ _ b1⟩), f1, f2, f3, f4, f5, k (.dat _) _ F2 ρ2 H2 l2 (s1.trans s2) (k1.trans k2) (.int _) q⟩
end Z

set_option Elab.async false
set_option linter.all false
set_option maxRecDepth 100000
namespace ZT
open PySem PySem.Spec PyProof.Rows L2
/-! ## tuple(d), d a dict: its keys -/
section
variable {prog : Program} {w : World} {A : Around} {E : Value → Shared → Prop} {s : Shared} {T : String} {r d : Addr} {n : Nat} {G : Nat → Value → Prop} {OK : Heap → Prop}
theorem collect_src {Q : List Value → Shared → Prop} (Y : PySem.W.KdlSrc prog w T r d n G OK) (hh : A.handled = none) (ok : OK s.heap) (hn : n ≤ sizeLine)
    (k : ∀ (g : Heap) (tk : Nat) (xs : Array Value), (∀ b o, s.heap.get? b = some o → g.get? b = some o) → ItemsOf G xs n → Q xs.toList { s with heap := g, toks := tk }) : wpAny (model prog w) A (collect (.ref r)) Q E s := by
  unfold collect
  apply wpAny_bind
  apply wpAny_runValue
  apply codeAny_builtin F.entry_proto_collect
  rw [Around.under_plainId F.plain_proto_collect _]
  change wpAny _ A.in1 (newList [] >>= fun l => again (.builtin "list.__iadd__" ⟨[l, .ref r], []⟩)) _ _ s
  apply wpAny_bind
  refine wpAny_newObj_type ?_
  refine wpAny_pure ⟨plainId_quiet F.plain_list_iadd _, ?_⟩
  apply codeAny_builtin F.entry_list_iadd
  rw [Around.under_plainId F.plain_list_iadd _]
  change wpAny _ A.in1 (Builtin.List.listExtendWith (.ref s.heap.objs.size) (.ref r) (.ref s.heap.objs.size)) _ _ _
  have lt := Y.there _ ok
  have kp : ∀ b o, s.heap.get? b = some o → (s.heap.push { cls := .type "list", data := .seq ([] : List Value).toArray }).get? b = some o := fun b o e => Heap.get?_push_of_some _ e
  have new : (s.heap.push { cls := .type "list", data := .seq ([] : List Value).toArray }).get? s.heap.objs.size = some { cls := .type "list", data := .seq #[] 0 } := Heap.get?_push_size _ rfl
  have go := PySem.W.kdl_extend (A := A) (R := fun rr t => rr = .ok (.ret (.ref s.heap.objs.size)) ∧ ∃ (g : Heap) (tk : Nat) (xs : Array Value) (c : Nat), t = { s with heap := g, toks := tk } ∧ (∀ b o, s.heap.get? b = some o → g.get? b = some o) ∧
      g.get? s.heap.objs.size = some { cls := .type "list", dict := none, data := .seq xs c, slots := #[] } ∧ ItemsOf G xs n)
    (s := { s with heap := s.heap.push { cls := .type "list", data := .seq ([] : List Value).toArray } }) Y hh (Y.keep _ _ ok fun b _ o e => kp b o e) s.heap.objs.size (Nat.ne_of_gt lt.1) (Nat.ne_of_gt lt.2) (.ref s.heap.objs.size) 0 new
    (fun g tk xs c h1 h2 h3 => ⟨rfl, g, tk, xs, c, rfl, fun b o e => h1 b o (Nat.ne_of_lt (Heap.lt_size e)) (kp b o e), h2, h3⟩) hn
  refine wpAny_mono go (fun fin t h => ?_) (fun e t h => ?_)
  · cases fin with
    | again c =>
      refine ⟨h.1, codeAny_mono h.2 fun rr t' h' => ?_⟩
      obtain ⟨rfl, g, tk, xs, c', rfl, h1, h2, h3⟩ := h'
      change wpAny _ A (load s.heap.objs.size >>= _) _ _ _
      exact wpAny_bind (wpAny_load h2 (wpAny_pure (k g tk xs h1 h3)))
    | done f =>
      obtain ⟨e, g, tk, xs, c', rfl, h1, h2, h3⟩ := h
      cases e
      change wpAny _ A (load s.heap.objs.size >>= _) _ _ _
      exact wpAny_bind (wpAny_load h2 (wpAny_pure (k g tk xs h1 h3)))
  · exact absurd h.1 (by simp)
theorem code_tup_src {Q₁ : Value → Shared → Prop} (hT : (T == "range") = (T == "range")) (Y : PySem.W.KdlSrc prog w T r d n G OK) (hh : A.handled = none) (ok : OK s.heap) (hn : n ≤ sizeLine) (hd : T = "dict")
    (k : ∀ (g : Heap) (tk : Nat) (xs : Array Value), (∀ b o, s.heap.get? b = some o → g.get? b = some o) → ItemsOf G xs n → Q₁ (.ref g.objs.size) { s with heap := g.push { cls := .type "tuple", data := .seq xs }, toks := tk }) :
    codeAny (model prog w) A (.call (.builtin "tuple.__new__") ⟨[.type "tuple", .ref r], []⟩) (wants Q₁ E) s := by
  subst hd
  apply codeAny_of_tree
  change wpAny _ A.in1 (do checkBuiltinCall "tuple.__new__" ⟨[.type "tuple", .ref r], []⟩; again (.builtin "tuple.__new__" ⟨[.type "tuple", .ref r], []⟩)) _ _ s
  refine wpAny_bind (wpAny_of_eq (F.newCall_tuple_1 _) (wpAny_pure ⟨plainId_quiet F.plain_tuple_new _, ?_⟩))
  apply codeAny_builtin F.entry_tuple_new
  rw [Around.under_plainId F.plain_tuple_new _]
  have hsub := sub_tuple_self
  have hinit := init_tuple_lookup
  have hmh := madeHere_tuple
  have ty := Y.type s ok
  have hh1 : A.in1.handled = none := hh
  wp_walk using wpAny_typeOf ty, collect_src (A := A.in1) Y hh1 ok hn
  intro g tk xs h1 h3
  change wpAny _ _ (Builtin.Tuple.tupleExact xs.toList.toArray >>= fun v => ret v) _ _ _
  unfold Builtin.Tuple.tupleExact
  have e : xs.toList.toArray = xs := by simp
  rw [e]
  exact wpAny_bind (wpAny_newObj_type (wpAny_pure (k g tk xs h1 h3)) (by show xs.size ≤ sizeLine; rw [h3.1]; exact hn))
theorem call_tup_src {Q : Value → Shared → Prop} (Y : PySem.W.KdlSrc prog w "dict" r d n G OK) (hh : A.handled = none) (ok : OK s.heap) (hn : n ≤ sizeLine)
    (k : ∀ (g : Heap) (tk : Nat) (xs : Array Value), (∀ b o, s.heap.get? b = some o → g.get? b = some o) → ItemsOf G xs n → Q (.ref g.objs.size) { s with heap := g.push { cls := .type "tuple", data := .seq xs }, toks := tk }) :
    wpAny (model prog w) A (call (.type "tuple") [.ref r]) Q E s := by
  refine callType_codes (Q₁ := fun obj t => t.TypeIs obj "tuple" ∧ Q obj t) F.called_tuple (F.typeCall_tuple_1 _) F.entry_object_init
    (code_tup_src (A := A.in1) rfl Y hh ok hn rfl fun g tk xs h1 h2 => ⟨⟨_, Heap.get?_push_size _ rfl, rfl⟩, k g tk xs h1 h2⟩) fun obj t h => ?_
  exact ⟨h.1, F.args_object_init_2 obj _, object_init_meets F.called_tuple.init.lookup F.called_tuple.made (by decide) prog w A.in1 _ t ⟨h.1, rfl, h.2⟩⟩
end
theorem call_tupD {X : Cx} (hc : X.calm = true) : CallR X (.type "tuple") (fun xs H Q => ∃ (a : Addr) (kvs : List (Key × V)), xs = [.ref a] ∧ H a = some (.dK kvs) ∧ ∀ p, H p = none → Q (.ref p) (L2.upd H p (.tup (kvs.map fun kv => kV kv.1)))) := by
  intro pins s σ H xs us Q I r q
  obtain ⟨a, kvs, rfl, hd, q⟩ := q
  obtain ⟨u, rfl, rx⟩ := vals1 r
  cases rx
  obtain ⟨z, lo, vs, rel, dd⟩ := dk_rd I.hok (.inl hd)
  obtain ⟨ep, hat⟩ := dd.dictAt
  have hlen : vs.length ≤ sizeLine := by rw [← rel.length]; exact z
  refine call_tup_src (PySem.W.kdl_dict (knd := mixKind X.prog X.w) (kvs := vs) (ep := ep) lo) (I.ok.hd hc) hat hlen fun g tk xs h1 h2 => ?_
  have ek : (kvs.map fun kv => kV kv.1) = vs.map fun p => kV p.1 := by
    have e := congrArg (List.map kV) rel.keys
    rw [List.map_map, List.map_map] at e
    exact e
  have hv : Vals (vs.map fun p => kV p.1) xs.toList := keys_at (by rw [Array.length_toList]; exact h2.1) fun j v e => h2.2 j v (by rw [← Array.getElem?_toList]; exact e)
  have I1 : Inv X pins σ H { s with heap := g, toks := tk } := I.kept (t' := tk) h1
  have I2 := I1.laid (t' := tk) (o := .tup (kvs.map fun kv => kV kv.1)) (h' := g.push { cls := .type "tuple", data := .seq xs }) (a := g.objs.size) (fun b o e => Heap.get?_push_of_some _ e) (Nat.le_refl _)
    ⟨by rw [List.length_map]; exact z, xs.toList, by rw [ek]; exact hv, ⟨_, Heap.get?_push_size _ rfl, rfl, 0, by simp⟩⟩
  exact ⟨.ref g.objs.size, _, I2, rfl, q _ (I1.hok.fresh (Nat.le_refl _))⟩
end ZT

set_option Elab.async false
set_option linter.all false
set_option maxRecDepth 100000
namespace ZT
open PySem PySem.Spec PyProof.Rows L2
/-! ## try .. except A as n: .. except B as n: .. -/
/-- the clauses: the class, the slot of its name (or none), the suite -/
abbrev Clause := Value × Option Nat × (Addr → Value → Option Addr → TS)
def nmE (D : Ends) : Option Nat → Ends
  | none => D
  | some i => { nx := fun τ G => D.nx (τ.set i none) G, rt := D.rt, bk := fun τ G => D.bk (τ.set i none) G, ct := fun τ G => D.ct (τ.set i none) G }
def nmS (τ : L2.St) (a : Addr) : Option Nat → L2.St
  | none => τ
  | some i => τ.set i (some (.ref a))
def wCl (K : PySem.W.Frag) (Wo : WX) (D : Ends) : List Clause → WX
  | [] => Wo
  | (c, o, ts) :: r => fun cl d τ G => ∃ b, PySem.W.exmOne K cl c = some b ∧ (b = true → ∀ a, G a = none → ts a cl d (nmE D o) (nmS τ a o) G) ∧ (b = false → wCl K Wo D r cl d τ G)
def NmOk (X : Cx) : Option Str → Option Nat → Prop
  | none, none => True
  | some n, some i => X.N[i]? = some n ∧ X.env.kindOf n = some .local
  | _, _ => False
inductive Cls (X : Cx) : List ExceptHandler → List Clause → Prop
  | nil : Cls X [] []
  | cons {x : Str} {c : Value} {nm : Option Str} {o : Option Nat} {ts : Addr → Value → Option Addr → TS} {st : Stmt} {sts : List Stmt} {p1 p2 : Pos} {hds : List ExceptHandler} {l : List Clause} (hc : Names X x c) (hn : NmOk X nm o)
      (hsu : ∀ (a : Addr) (ob : Obj) (cl : Value) (d : Option Addr) (pn : List (Addr × Obj)), Zc cl d ob → (∃ vs, ob.data = .fields vs) → PSs (X.suite a ((a, ob) :: pn)) (st :: sts) (ts a cl d)) (r : Cls X hds l) :
      Cls X (.ExceptHandler (some (.Name x p1)) nm (st :: sts) p2 :: hds) ((c, o, ts) :: l)
section
variable {X : Cx} {body : List Stmt} {h0 : ExceptHandler} {hds : List ExceptHandler} {l : List Clause} {pos : Pos} {tb : WX → TS} {Wo : WX}
theorem ps_tryC (hst : X.stack = X.env :: X.outer) (hfr : X.env.frame = some X.env.locals) (hN : X.N.Nodup) (tk : Takes X Wo)
    (hb : ∀ (W : WX) (pn : List (Addr × Obj)) (xe : Value → Shared → Prop), Takes (X.tr pn xe) W → PassesOwn (model X.prog X.w) X.A X.env xe → PSs (X.tr pn xe) body (tb W))
    (hh : Cls X (h0 :: hds) l) : PS X (.Try body (h0 :: hds) [] [] pos) (fun D τ G => tb (wCl X.K Wo D l) D τ G) := by
  constructor
  intro pins s τ G D J want
  have ok := J.ok
  have fr2 : X.A.frames = some (X.env :: X.outer) := by rw [ok.frames, hst]
  apply wpAny_Try_except
  refine wpAny_mono ((hb (wCl X.K Wo D l) (X.pn ++ pins) (fun e s₁ => wpAny (model X.prog X.w) X.A (noteFrame e X.env) (fun _ s₂ => wpAny (model X.prog X.w) X.A (setFlight e none) (fun _ s₃ =>
    wpAny (model X.prog X.w) X.A (handleBy e X.env (h0 :: hds)) (SP X pins D) X.xe s₃) X.xe s₂) X.xe s₁) (fun u t air => ?_) PassesOwn.looking).run [] s τ G D (J.toTry _) want) (fun f t fin => ?_) (fun _ _ z => z)
  · obtain ⟨a, B, sI, pins', τ1, G1, cl, d, rfl, J1, nb, up, sky, na, os, ag, ww⟩ := air
    have J2 : Inv X pins τ1 G1 sI := J1.ofTry ok
    have sky2 : Sky B (X.env :: X.outer) a (Zc cl d) X.env.locals t.heap := by rw [← hst]; exact sky
    change wpAny (model X.prog X.w) X.A (noteFrame (.ref a) X.env) _ _ _
    refine Sky.land Zc.steady fr2 hfr sky2 fun g fl u3 => ?_
    have J3 : Inv X pins τ1 G1 { t with heap := g } := J2.landed nb fl.1 (up.trans u3) os ag
    obtain ⟨ob, vs, hob, hz, hdt⟩ := fl.there
    have off : a ∉ frs (X.env :: X.outer) := fun hm => by
      obtain ⟨_, o2, e2, hnf⟩ := fl.2.2.1.mem hm
      rw [hob] at e2
      cases e2
      exact hnf _ hdt
    have off1 : a ≠ X.env.locals := fun z => off (List.mem_filterMap.mpr ⟨X.env, List.mem_cons_self, by rw [hfr, z]⟩)
    have off2 : a ∉ X.fs := fun hm => by
      obtain ⟨e, he, q⟩ := List.mem_filterMap.mp hm
      exact off (List.mem_filterMap.mpr ⟨e, List.mem_cons_of_mem _ he, q⟩)
    have S := J3.suite hob hdt na off1 off2
    have step : ∀ {hs2 : List ExceptHandler} {l2 : List Clause}, Cls X hs2 l2 → wCl X.K Wo D l2 cl d τ1 G1 → wpAny (model X.prog X.w) X.A (handleBy (.ref a) X.env hs2) (SP X pins D) X.xe { t with heap := g } := by
      intro hs2 l2 ck
      induction ck with
      | nil =>
        intro w2
        apply wpAny_handleBy_nil
        obtain ⟨_, _, _, o3, v3, T3, oT, t3, e3, z3, d3, f3, r3⟩ := id fl
        unfold PySem.passOn
        refine wpAny_bind (wpAny_field e3 d3 f3 ?_)
        rw [if_neg (show ¬ ((Value.ref T3 == Value.none) = true) from by simp)]
        have out : wpAny (model X.prog X.w) X.A (setFlight (.ref a) X.env.frame) (fun _ s4 => wpAny (model X.prog X.w) X.A (throw (.ref a) : Sem Flow) (SP X pins D) X.xe s4) X.xe { t with heap := g } := by
          rw [hfr]
          refine HandSPX.setFlight_upZ fl fun g4 hg4 u4 => wpAny_throw (tk _ _ ?_)
          exact ⟨a, B, sI, pins, τ1, G1, cl, d, rfl, J2, nb, (up.trans u3).trans u4, .inr (.inr (by rw [hst]; exact hg4)), na, os, ag, w2⟩
        first
          | exact wpAny_bind (wpAny_pure (wpAny_bind out))
          | exact wpAny_bind out
      | @cons x c nm o ts st sts p1 p2 hds3 l3 hc hn hsu _ ih =>
        intro w2
        obtain ⟨b, hb1, yes, no⟩ := w2
        refine wpAny_handleBy_cons (codeAny_handlers_test ?_) (by intro q; cases q)
        have look : PySem.W.Looks (model X.prog X.w) g (typeOf (.ref a)) cl := fun A Q E s k q => wpAny_typeOf_ref (k _ _ hob) (by rw [hz.1]; exact q)
        have mark := PySem.W.exm_one (M := model X.prog X.w) (J3.kIn) look hb1
        have named : ∀ {Q : Value → Shared → Prop} {E : Value → Shared → Prop}, Q c { t with heap := g } → wpAny (model X.prog X.w) (X.A.mark (some (.ref a))) (eval (.Name x p1) X.env) Q E { t with heap := g } := fun {Q E} q => by
          obtain ⟨hg, hdb, hm | ⟨hm, hv, hnn⟩⟩ := hc
          · exact ld_glob (X := X.suite a ((a, ob) :: (X.pn ++ pins))) S hg hm q hdb
          · exact ld_blt (X := X.suite a ((a, ob) :: (X.pn ++ pins))) S hg hm hv q hnn hdb
        refine named (mark.here ?_)
        cases b with
        | false =>
          change wpAny _ X.A (handleBy (.ref a) X.env hds3) _ _ _
          exact ih (no rfl)
        | true =>
          have go := yes rfl a na
          match nm, o, hn, go with
          | none, none, _, go =>
            apply codeAny_handlers_suite
            refine HandSPX.lands_againZ fl fun g4 fl4 u4 => ?_
            have J4 : Inv X pins τ1 G1 { t with heap := g4 } := J2.landed nb fl4.1 ((up.trans u3).trans u4) os ag
            obtain ⟨ob4, vs4, hob4, hz4, hd4⟩ := fl4.there
            have S4 := J4.suite hob4 hd4 na off1 off2
            refine wpAny_mono ((hsu a ob4 cl d (X.pn ++ pins) hz4 ⟨_, hd4⟩).run [] _ _ G1 _ S4 go) (fun f t6 q => ?_) (fun _ _ z => False.elim z)
            match f, q with
            | .next, ⟨_, _, S6, q6⟩ => exact ⟨_, _, S6.unsuite ok, q6⟩
            | .brk, ⟨_, _, S6, q6⟩ => exact ⟨_, _, S6.unsuite ok, q6⟩
            | .cont, ⟨_, _, S6, q6⟩ => exact ⟨_, _, S6.unsuite ok, q6⟩
            | .ret u, ⟨_, _, _, S6, r6, q6⟩ => exact ⟨_, _, _, S6.unsuite ok, r6, q6⟩
          | some n, some i, hn, go =>
            obtain ⟨hi, hln⟩ := hn
            apply codeAny_handlers_suite_as
            refine HandSPX.lands_againZ fl fun g4 fl4 u4 => ?_
            have J4 : Inv X pins τ1 G1 { t with heap := g4 } := J2.landed nb fl4.1 ((up.trans u3).trans u4) os ag
            obtain ⟨ob4, vs4, hob4, hz4, hd4⟩ := fl4.there
            have S4 := J4.suite hob4 hd4 na off1 off2
            refine store_ok (X := X.suite a ((a, ob4) :: (X.pn ++ pins))) (v := .ref a) S4 hN hi (.inl hln) rfl (fun t5 S5 => ?_) (.inr hln)
            refine wpAny_mono ((hsu a ob4 cl d (X.pn ++ pins) hz4 ⟨_, hd4⟩).run [] t5 _ G1 _ S5 go) (fun f t6 q => ?_) (fun _ _ z => False.elim z)
            have rest : ∀ {τ6 : L2.St} {G6 : Hp} {Q : Shared → Prop}, Inv (X.suite a ((a, ob4) :: (X.pn ++ pins))) [] τ6 G6 t6 → (∀ t7, Inv X pins (τ6.set i none) G6 t7 → Q t7) →
                wpAny (model X.prog X.w) X.A (do bindName X.env n .none; unbindBehindTheSuite X.env n p2) (fun _ t7 => Q t7) X.xe t6 := fun {τ6 G6 Q} S6 hq => gone_ok (S6.unsuite ok) hN hi hln hq
            match f, q with
            | .next, ⟨_, _, S6, q6⟩ => exact rest S6 fun t7 J7 => ⟨_, _, J7, q6⟩
            | .brk, ⟨_, _, S6, q6⟩ => exact rest S6 fun t7 J7 => ⟨_, _, J7, q6⟩
            | .cont, ⟨_, _, S6, q6⟩ => exact rest S6 fun t7 J7 => ⟨_, _, J7, q6⟩
            | .ret u, ⟨_, _, _, S6, r6, q6⟩ => exact rest S6 fun t7 J7 => ⟨_, _, _, J7, r6, q6⟩
          | none, some _, hn, _ => exact hn.elim
          | some _, none, hn, _ => exact hn.elim
    exact step hh ww
  · match f, fin with
    | .next, ⟨_, _, J1, q⟩ => exact wpAny_execs_nil ⟨_, _, J1.ofTry ok, q⟩
    | .brk, ⟨_, _, J1, q⟩ => exact ⟨_, _, J1.ofTry ok, q⟩
    | .cont, ⟨_, _, J1, q⟩ => exact ⟨_, _, J1.ofTry ok, q⟩
    | .ret u, ⟨_, _, _, J1, r, q⟩ => exact ⟨_, _, _, J1.ofTry ok, r, q⟩
end
end ZT

set_option Elab.async false
set_option linter.all false
set_option maxRecDepth 100000
namespace Z
open PySem L2
/-! ## exceptions by values -/
abbrev EXE := Addr → List (Str × D) → En → Prop
def LXT (B : Bs) (exE : EXE) (W : WX) : Prop :=
  (∀ C (fs : List (Str × D)) d (fv : List (Str × V)) F ρ σ H, Rel B F ρ σ H → F d = some (.xd fv) → fv.map (·.1) = fs.map (·.1) → RvA B.K B.hd F (fv.map (·.2)) (fs.map (·.2)) → exE C fs ρ → W (.ref C) (some d) σ H) ∧
  ∀ C F ρ σ H, Rel B F ρ σ H → exE C [] ρ → W (.ref C) none σ H
theorem lxt_fn {B : Bs} {ex : EXD} {E : XK} (hl : LX B ex E) : LXT B (fun C fs _ => ex C fs) (fun c d _ H => E c d H) :=
  ⟨fun C fs d fv F ρ σ H l e1 e2 e3 q => hl.1 C fs d fv F H l.to e1 e2 e3 q, fun C F ρ σ H l q => hl.2 C F H l.to q⟩
section
variable {B : Bs} {F F' H H' : Hp} {ρ ρ' : En} {σ σ' : L2.St}
/-- what stands relative to a later base stands relative to the earlier one -/
theorem Rel.up (r : Rel B F ρ σ H) {a0 : ∀ p, B.md = some p → H p.2 ≠ none} (r' : Rel ⟨B.K, B.md, F, H, a0⟩ F' ρ' σ' H') : Rel B F' ρ' σ' H' := by
  have s : Same F F' := r'.fro
  refine ⟨r'.len, r'.sub, r.fro.trans s, fun b hb => ?_, fun b o e n => r'.kept b o (r.kept b o e n) n, fun p e => ?_, fun i o e => ?_, r'.ap⟩
  · rcases r'.new b hb with z | z
    · exact r.new b z
    · exact .inr (r.no0 z)
  · obtain ⟨h1, h2, _⟩ := r'.hnd p e
    exact ⟨h1, h2, (r.hnd p e).2.2⟩
  · obtain ⟨v, e1, h⟩ := r'.var i o e
    refine ⟨v, e1, ?_⟩
    cases o with
    | dat d => exact h
    | own ds =>
      obtain ⟨p, vs, ev, h1, h2, h3, h4⟩ := h
      exact ⟨p, vs, ev, h1, h2, h3, r.no0 h4⟩
    | dic ks ds =>
      obtain ⟨p, vs, ev, h1, h1', h2, h3, h4⟩ := h
      exact ⟨p, vs, ev, h1, h1', h2, h3, r.no0 h4⟩
theorem After.up (r : Rel B F ρ σ H) {a0 : ∀ p, B.md = some p → H p.2 ≠ none} (a : After ⟨B.K, B.md, F, H, a0⟩ F' H') : After B F' H' := (r.after a).1.to
theorem RvC.up (r : Rel B F ρ σ H) {a0 : ∀ p, B.md = some p → H p.2 ≠ none} {x : R} {v : V} (h : RvC ⟨B.K, B.md, F, H, a0⟩ F' H' v x) : RvC B F' H' v x := by
  cases x with
  | dat d => exact h
  | var i => exact h
  | new ds =>
    obtain ⟨p, vs, e, e1, ra, n, n0⟩ := h
    exact ⟨p, vs, e, e1, ra, n, r.no0 n0⟩
theorem Rel.noX (l : Rel B F ρ σ H) {b : Addr} {fv : List (Str × V)} (ow : Own ρ σ b) (e : H b = some (.xd fv)) : False := by
  obtain ⟨i, o, e1, w, es⟩ := ow
  obtain ⟨v, e2, h⟩ := l.var i o e1
  rw [es] at e2
  cases e2
  cases o with
  | dat d => cases w
  | own ds =>
    obtain ⟨p, vs, ev, h1, _⟩ := h
    cases ev
    rw [e] at h1; cases h1
  | dic ks ds =>
    obtain ⟨p, vs, ev, h1, _⟩ := h
    cases ev
    rw [e] at h1; cases h1
end
def dCallT (W : DW) (dd : List D) (exE : EXE) (u : DTA) : DT := fun ρ P => u ρ fun rs ρ1 => W (rs.map (vl ρ1) ++ dd) (fun r => bOk rs r ∧ P r ρ1) fun C fs => (rs.any R.isVar = true → noLA (fs.map (·.2)) = true) ∧ exE C fs ρ1
section
variable {X : Cx} {B : Bs} {x : Str} {k : Nat} {W : DW} {W' : WX} {exE : EXE} {e : Expr} {es : List Expr} {tA : TA} {u : DTA} {p pos : Pos} {dvs : List V} {dd : List D}
theorem sp_callT {F H : Hp} {ρ : En} {σ : L2.St} {vs : List V} {rs : List R} {P : R → Prop} {Q : VK} (l : Rel B F ρ σ H) (h : AllR B F ρ σ H vs rs) (hl : LXT B exE W') (hdv : ∀ F, RvA B.K B.hd F dvs dd)
    (w : W (rs.map (vl ρ) ++ dd) (fun r => bOk rs r ∧ P r) fun C fs => (rs.any R.isVar = true → noLA (fs.map (·.2)) = true) ∧ exE C fs ρ) (k : Kt B F ρ σ P Q) : spD B.K W (vs ++ dvs) H Q (WE W' σ) := by
  by_cases hb : rs.any R.isVar = true
  · have l1 := l.lend
    refine ⟨⟨B.K, B.md, _, H, l1.a0⟩, _, _, _, rfl, rfl, ⟨l1.sub, fun p e => ⟨(l1.hnd p e).1, (l1.hnd p e).2.1⟩⟩, (h.lent l).app (hdv _), w, fun r v F' H' ⟨bo, p⟩ a rv => ?_, fun C fs d fv F' H' a e1 e2 e3 q => ?_, fun C F' H' a q => ?_⟩
    · obtain ⟨l2, s2⟩ := l1.after a
      have rv2 := l1.afterR a rv
      obtain ⟨l3, s3, less⟩ := l.back s2 l2
      refine k r v _ H' l3 s3 ?_ p
      have n := bo hb
      cases r with
      | dat d => exact Rv.less less d v n rv2
      | var i => cases n
      | new ds => exact l.backNew s2 l2 rv2 n
    · obtain ⟨l2, s2⟩ := l1.after a
      obtain ⟨l3, s3, less⟩ := l.back s2 l2
      refine hl.1 C fs d fv _ ρ σ H' l3 ?_ e2 (RvA.less less _ _ (q.1 hb) e3) q.2
      rw [unlend_no]
      · exact e1
      · intro ow
        exact l3.noX ow (l2.sub _ _ e1)
    · obtain ⟨l2, s2⟩ := l1.after a
      obtain ⟨l3, s3, less⟩ := l.back s2 l2
      exact hl.2 C _ ρ σ H' l3 q.2
  · refine ⟨⟨B.K, B.md, F, H, l.a0⟩, _, _, _, rfl, rfl, ⟨l.sub, fun p e => ⟨(l.hnd p e).1, (l.hnd p e).2.1⟩⟩, (h.plain l (by simpa using hb)).app (hdv _), w, fun r v F' H' ⟨_, p⟩ a rv => k r v F' H' (l.after a).1 (l.after a).2 (l.afterR a rv) p, fun C fs d fv F' H' a e1 e2 e3 q => hl.1 C fs d fv F' ρ σ H' (l.after a).1 e1 e2 e3 q.2, fun C F' H' a q => hl.2 C F' ρ σ H' (l.after a).1 q.2⟩
theorem de_callT {K : PySem.W.Frag} (c : CalV X.prog X.w X.K X.mg X.base (L2.CX X.prog X.w) x k (spD K W) dvs) (hr : Room k X.A) (hg : Gl X x) (tk : Takes X W') (hl : LXT B exE W') (hdv : ∀ F, RvA B.K B.hd F dvs dd) (ha : DA X B (e :: es) tA u)
    (hB : B.K = K := by rfl) (hdb : (x == ("__debug__" : Str)) = false := by decide) (he : starEach (e :: es) X.env = (false, eval e X.env) :: starEach es X.env := by rfl) (hpl : (backTo pos (starEach es X.env)).any (·.1) = false := by rfl) :
    DE X B (.Call (.Name x p) (e :: es) [] pos) (tCallSD (spD K W) dvs (WE W') tA) (dCallT W dd exE u) := by
  subst hB
  obtain ⟨f, fd, ps, ds, hm, hk, hb, hv, FO⟩ := c.ex
  refine ⟨pe_callSD FO hr hg hm hk hb hv (fun σ => passAt tk σ) ha.pe hdb he hpl, fun F ρ σ H P Q l w k => ha.sim F ρ σ H _ _ l w fun rs vs F' ρ' H' l' s kp al q => ?_⟩
  exact sp_callT l' al hl hdv q fun r v F2 H2 l2 s2 rv p => k r v F2 ρ' H2 l2 (s.trans s2) kp rv p
end
/-! ### raise of an error with fields -/
def spEx (C : Addr) (fs : List Str) : Sp := fun vs H Q _ => ∃ (a : Addr) (xs : List V), vs = .ref a :: xs ∧ xs.length = fs.length ∧ H a = some (exo a C none) ∧
  ∀ d H', H d = none → d ≠ a → H' a = some (exo a C (some d)) → H' d = some (exd d (fs.zip xs).reverse) → (∀ b, b ≠ a → b ≠ d → H' b = H b) → Q .non H'
structure ExK (P : Program) (w : World) (K : PySem.W.Frag) (mg : Str → Option Value) (base : Heap) (x : Str) (C : Addr) (fs : List Str) : Prop where
  ex : ∃ (fI : Addr) (fd : FuncData) (ps : List Str), OexC K C ∧ mg x = some (.ref C) ∧ PySem.W.findIn K (.ref C) "__init__" = some (some (.ref fI)) ∧ PySem.W.typeIn K (.ref fI) = some (.type "function") ∧
    FnOk P w K mg base CX0 1 fI fd ps (spEx C fs) ∧ Binds K fd ps []
def dRaise (C : Addr) (fs : List Str) (exE : EXE) (u : DTA) : DST := fun _ ρ => u ρ fun rs ρ1 => rs.any R.isVar = false ∧ rs.length = fs.length ∧ fs.length ≤ 1000 ∧ exE C (fs.zip (rs.map (vl ρ1))).reverse ρ1
theorem RvA.rev {K : PySem.W.Frag} {hd : Option Addr} {F : Hp} : ∀ {ds : List D} {vs : List V}, RvA K hd F vs ds → RvA K hd F vs.reverse ds.reverse
  | [], _, h => by cases h; exact .nil
  | d :: ds, _, h => by
    cases h with
    | cons a b =>
      rw [List.reverse_cons, List.reverse_cons]
      exact (RvA.rev b).app (.cons a .nil)
theorem zip_snd {α β : Type} : ∀ {xs : List α} {ys : List β}, ys.length = xs.length → ((xs.zip ys).reverse).map (·.2) = ys.reverse ∧ ((xs.zip ys).reverse).map (·.1) = xs.reverse
  | [], [], _ => ⟨rfl, rfl⟩
  | x :: xs, y :: ys, h => by
    obtain ⟨h1, h2⟩ := zip_snd (xs := xs) (ys := ys) (by simpa using h)
    rw [List.zip_cons_cons, List.reverse_cons, List.map_append, List.map_append, h1, h2, List.reverse_cons, List.reverse_cons]
    exact ⟨rfl, rfl⟩
section
variable {X : Cx} {B : Bs} {x : Str} {C : Addr} {fs : List Str} {W' : WX} {exE : EXE} {e : Expr} {es : List Expr} {tA : TA} {u : DTA} {p pos pos' : Pos}
theorem ds_raise (T : ExK X.prog X.w X.K X.mg X.base x C fs) (tk : Takes X W') (hc : X.calm = true) (hr : Room 2 X.A) (hg : Gl X x) (hl : LXT B exE W') (ha : DA X B (e :: es) tA u)
    (hdb : (x == ("__debug__" : Str)) = false := by decide) (he : starEach (e :: es) X.env = (false, eval e X.env) :: starEach es X.env := by rfl) (hpl : (backTo pos (starEach es X.env)).any (·.1) = false := by rfl) :
    DS X B (.Raise (some (.Call (.Name x p) (e :: es) [] pos)) none pos') (fun _ σ H => tMkO C (spEx C fs) [] tA σ H fun c d H' => W' c d σ H') (dRaise C fs exE u) := by
  obtain ⟨fI, fd, ps, ox, gm, iC, tI, FO, hb⟩ := T.ex
  refine ⟨ps_raise hc tk (pmk_oex ox iC tI FO hr hb .nil (fun _ _ _ _ _ _ _ h => h.elim) hg gm ha.pe hdb he hpl), fun F ρ σ H D E l w k => ha.sim F ρ σ H _ _ l w fun rs vs F1 ρ1 H1 l1 s1 k1 al ⟨q1, q2, q3, q4⟩ => ?_⟩
  have lv : vs.length = fs.length := by rw [al.len, q2]
  have ra := al.plain l1 q1
  refine ⟨by rw [lv]; exact q3, fun a na => ⟨a, vs, by rw [List.append_nil], lv, upd_same, fun d H' nd da e1 e2 oth => ⟨rfl, d, _, e1, e2, ?_, ?_⟩⟩⟩
  · rw [upd_ne da] at nd
    exact nd
  · have nd1 : H1 d = none := by
      rw [upd_ne da] at nd
      exact nd
    have sH : Same H1 (upd (del H' a) d (.xd (fs.zip vs).reverse)) := fun b o eb => by
      have nb : b ≠ d := ne_of_none eb nd1
      have na' : b ≠ a := ne_of_none eb na
      rw [upd_ne nb, del_ne na', oth b na' nb, upd_ne na']
      exact eb
    have nF : F1 d = none := l1.noF nd1
    have l2 : Rel B (upd F1 d (.xd (fs.zip vs).reverse)) ρ1 σ (upd (del H' a) d (.xd (fs.zip vs).reverse)) := l1.grow (same_new nF) sH (fun b o eb => by
      by_cases h : b = d
      · subst h
        rw [upd_same] at eb ⊢
        exact eb
      · rw [upd_ne h] at eb
        exact sH _ _ (l1.sub _ _ eb)) fun b hb => by
      by_cases h : b = d
      · subst h
        exact .inr nd1
      · rw [upd_ne h] at hb
        exact .inl hb
    have lr : (rs.map (vl ρ1)).length = fs.length := by rw [List.length_map, q2]
    obtain ⟨z1, z2⟩ := zip_snd (xs := fs) (ys := vs) lv
    obtain ⟨z3, z4⟩ := zip_snd (xs := fs) (ys := rs.map (vl ρ1)) lr
    refine hl.1 C _ d _ _ ρ1 σ _ l2 upd_same (by rw [z2, z4]) ?_ q4
    rw [z1, z3]
    exact (ra.mono (same_new nF)).rev
end
/-! ### try -/
def XF (B : Bs) (C : Addr) (fs : List (Str × D)) (d : Option Addr) : Prop := (∃ dd fv, d = some dd ∧ B.F0 dd = some (.xd fv) ∧ fv.map (·.1) = fs.map (·.1) ∧ RvA B.K B.hd B.F0 (fv.map (·.2)) (fs.map (·.2))) ∨ (fs = [] ∧ d = none)
abbrev MdT := Option (Addr × Addr)
abbrev ClD (md : MdT) := Value × Option Nat × ((F0 H0 : Hp) → (∀ p, md = some p → H0 p.2 ≠ none) → Addr → Value → Option Addr → DST)
def nmD (D : DEnds) : Option Nat → DEnds
  | none => D
  | some i => { nx := fun ρ => D.nx (ρ.set i none), rt := D.rt, bk := fun ρ => D.bk (ρ.set i none), ct := fun ρ => D.ct (ρ.set i none) }
def nmR (ρ : En) (a : Addr) : Option Nat → En
  | none => ρ
  | some i => ρ.set i (some (.dat (.cls a)))
def disp (K : PySem.W.Frag) (md : MdT) (exO : EXE) (D : DEnds) : List (ClD md) → EXE
  | [] => exO
  | (c, o, t) :: r => fun C fs ρ => ∃ b, PySem.W.exmOne K (.ref C) c = some b ∧ (b = true → hasOwn ρ = false ∧ ∀ F0 H0 a0 a d, XF ⟨K, md, F0, H0, a0⟩ C fs d → t F0 H0 a0 a (.ref C) d (nmD D o) (nmR ρ a o)) ∧ (b = false → disp K md exO D r C fs ρ)
def dTry (K : PySem.W.Frag) (md : MdT) (td : EXE → DST) (hs : List (ClD md)) (exO : EXE) : DST := fun D ρ => hasOwn ρ = false ∧ td (disp K md exO D hs) D ρ
theorem dTry_go {K : PySem.W.Frag} {md : MdT} {td : EXE → DST} {cs : List (ClD md)} {exO : EXE} {D : DEnds} {ρ : En} (h0 : hasOwn ρ = false) (S : EXE → Prop) (h1 : S (disp K md exO D cs)) (h2 : ∀ X, S X → td X D ρ) : dTry K md td cs exO D ρ := ⟨h0, h2 _ h1⟩
inductive ClsD (X : Cx) (K : PySem.W.Frag) (md : MdT) : List ExceptHandler → List ZT.Clause → List (ClD md) → Prop
  | nil : ClsD X K md [] [] []
  | cons {x : Str} {c : Value} {nm : Option Str} {o : Option Nat} {ts : Addr → Value → Option Addr → TS} {st : Stmt} {sts : List Stmt} {p1 p2 : Pos} {hds : List ExceptHandler} {l : List ZT.Clause} {t : (F0 H0 : Hp) → (∀ p, md = some p → H0 p.2 ≠ none) → Addr → Value → Option Addr → DST} {ds : List (ClD md)} (hc : Names X x c) (hn : ZT.NmOk X nm o)
      (hsu : ∀ (F0 H0 : Hp) (a0 : ∀ p, md = some p → H0 p.2 ≠ none) (a : Addr) (ob : Obj) (cl : Value) (d : Option Addr) (pn : List (Addr × Obj)), Zc cl d ob → (∃ vs, ob.data = .fields vs) → DSs (X.suite a ((a, ob) :: pn)) ⟨K, md, F0, H0, a0⟩ (st :: sts) (ts a cl d) (t F0 H0 a0 a cl d)) (r : ClsD X K md hds l ds) :
      ClsD X K md (.ExceptHandler (some (.Name x p1)) nm (st :: sts) p2 :: hds) ((c, o, ts) :: l) ((c, o, t) :: ds)
theorem noOwn_dat {ρ : En} (h : hasOwn ρ = false) (i : Nat) (o : OV) (e : ρ[i]? = some (some o)) : o.isOwn = false := by
  cases w : o.isOwn with
  | false => rfl
  | true => rw [hasOwn_of e w] at h; cases h
section
variable {X : Cx} {B : Bs} {body : List Stmt} {h0 : ExceptHandler} {hds : List ExceptHandler} {l : List ZT.Clause} {cs : List (ClD B.md)} {pos : Pos} {tb : WX → TS} {td : EXE → DST} {Wo : WX} {exO : EXE}
theorem ClsD.cls (a00 : ∀ p, B.md = some p → B.H0 p.2 ≠ none) {K : PySem.W.Frag} {hs : List ExceptHandler} (h : ClsD X K B.md hs l cs) : ZT.Cls X hs l := by
  induction h with
  | nil => exact .nil
  | cons hc hn hsu r ih => exact .cons hc hn (fun a ob cl d pn z1 z2 => (hsu B.F0 B.H0 a00 a ob cl d pn z1 z2).ps) ih
theorem cls_lxt {B1 : Bs} {D : DEnds} {E : Ends} {hs : List ExceptHandler} {lc : List ZT.Clause} {cd : List (ClD B1.md)} (h : ClsD X B1.K B1.md hs lc cd) (ko : LXT B1 exO Wo) (k : LkE B1 B1.F0 D E) :
    ∀ C (fs : List (Str × Z.D)) (d : Option Addr) F ρ σ H, Rel B1 F ρ σ H → ((∃ dd fv, d = some dd ∧ F dd = some (.xd fv) ∧ fv.map (·.1) = fs.map (·.1) ∧ RvA B1.K B1.hd F (fv.map (·.2)) (fs.map (·.2))) ∨ (fs = [] ∧ d = none)) → disp B1.K B1.md exO D cd C fs ρ → ZT.wCl B1.K Wo E lc (.ref C) d σ H := by
  induction h with
  | nil =>
    intro C fs d F ρ σ H l x q
    rcases x with ⟨dd, fv, rfl, e1, e2, e3⟩ | ⟨rfl, rfl⟩
    · exact ko.1 C fs dd fv F ρ σ H l e1 e2 e3 q
    · exact ko.2 C F ρ σ H l q
  | @cons x c nm o ts st sts p1 p2 hds lc t ds hc hn hsu r ih =>
    intro C fs d F ρ σ H l x q
    obtain ⟨b, hb, yes, no⟩ := q
    refine ⟨b, hb, fun e a na => ?_, fun e => ih C fs d F ρ σ H l x (no e)⟩
    obtain ⟨ho, go⟩ := yes e
    have sim := (hsu F H l.a0 a { cls := .ref C, dict := d, data := .fields #[] } (.ref C) d [] ⟨rfl, rfl⟩ ⟨_, rfl⟩).sim
    have lb := l.base (noOwn_dat ho) l.a0
    refine sim F (nmR ρ a o) (ZT.nmS σ a o) H (nmD D o) (ZT.nmE E o) ?_ (go F H l.a0 a d x) ?_
    · cases o with
      | none => exact lb
      | some i => exact lb.set (o := .dat (.cls a)) (.cls a) fun z => by cases z
    · have drop2 : ∀ {F' H' : Hp} {ρ' : En} {σ' : L2.St} (i : Nat), Rel B1 F' ρ' σ' H' → Rel B1 F' (ρ'.set i none) (σ'.set i none) H' := fun i r => r.wipe [i]
      refine ⟨fun F' ρ' σ' H' l' s p => ?_, fun r v F' H' a' rv p => ?_, fun F' ρ' σ' H' l' s p => ?_, fun F' ρ' σ' H' l' s p => ?_⟩
      · cases o with
        | none => exact k.nx F' ρ' σ' H' (l.up l') (l.fro.trans s) p
        | some i => exact k.nx F' _ _ H' (drop2 i (l.up l')) (l.fro.trans s) p
      · have := k.rt r v F' H' (After.up l a') (RvC.up l rv) (by cases o <;> exact p)
        cases o <;> exact this
      · cases o with
        | none => exact k.bk F' ρ' σ' H' (l.up l') (l.fro.trans s) p
        | some i => exact k.bk F' _ _ H' (drop2 i (l.up l')) (l.fro.trans s) p
      · cases o with
        | none => exact k.ct F' ρ' σ' H' (l.up l') (l.fro.trans s) p
        | some i => exact k.ct F' _ _ H' (drop2 i (l.up l')) (l.fro.trans s) p
theorem ds_try (hst : X.stack = X.env :: X.outer) (hfr : X.env.frame = some X.env.locals) (hN : X.N.Nodup) (tk : Takes X Wo) (ko : LXT B exO Wo)
    (hb : ∀ (F0 H0 : Hp) (a0 : ∀ p, B.md = some p → H0 p.2 ≠ none) (W : WX) (pn : List (Addr × Obj)) (xe : Value → Shared → Prop), Takes (X.tr pn xe) W → ∀ exE, LXT ⟨B.K, B.md, F0, H0, a0⟩ exE W → DSs (X.tr pn xe) ⟨B.K, B.md, F0, H0, a0⟩ body (tb W) (td exE))
    (hh : ClsD X B.K B.md (h0 :: hds) l cs) (hK : X.K = B.K := by rfl) : DS X B (.Try body (h0 :: hds) [] [] pos) (fun D τ G => tb (ZT.wCl X.K Wo D l) D τ G) (dTry B.K B.md td cs exO) := by
  refine ⟨ZT.ps_tryC hst hfr hN tk (fun W pn xe tk po => ?_) (ClsD.cls B.a0 hh), fun F ρ σ H D E lr w k => ?_⟩
  · exact (hb B.F0 B.H0 B.a0 W pn xe tk (fun _ _ _ => False) ⟨fun _ _ _ _ _ _ _ _ _ _ _ _ q => q.elim, fun _ _ _ _ _ _ q => q.elim⟩).ps
  · obtain ⟨ho, w⟩ := w
    have l1 := lr.base (noOwn_dat ho) lr.a0
    have k1 : LkE ⟨B.K, B.md, F, H, lr.a0⟩ F D E := ⟨fun F' ρ' σ' H' l' s p => k.nx F' ρ' σ' H' (lr.up l') s p, fun r v F' H' a rv p => k.rt r v F' H' (After.up lr a) (RvC.up lr rv) p, fun F' ρ' σ' H' l' s p => k.bk F' ρ' σ' H' (lr.up l') s p, fun F' ρ' σ' H' l' s p => k.ct F' ρ' σ' H' (lr.up l') s p⟩
    have ko1 : LXT ⟨B.K, B.md, F, H, lr.a0⟩ exO Wo := ⟨fun C fs d fv F' ρ' σ' H' l' e1 e2 e3 q => ko.1 C fs d fv F' ρ' σ' H' (lr.up l') e1 e2 e3 q, fun C F' ρ' σ' H' l' q => ko.2 C F' ρ' σ' H' (lr.up l') q⟩
    have lx := cls_lxt (B1 := ⟨B.K, B.md, F, H, lr.a0⟩) hh ko1 k1
    have lxt : LXT ⟨B.K, B.md, F, H, lr.a0⟩ (disp B.K B.md exO D cs) (ZT.wCl B.K Wo E l) := ⟨fun C fs d fv F' ρ' σ' H' l' e1 e2 e3 q => lx C fs (some d) F' ρ' σ' H' l' (.inl ⟨d, fv, rfl, e1, e2, e3⟩) q, fun C F' ρ' σ' H' l' q => lx C [] none F' ρ' σ' H' l' (.inr ⟨rfl, rfl⟩) q⟩
    show tb (ZT.wCl X.K Wo E l) E σ H
    rw [hK]
    exact (hb F H lr.a0 (ZT.wCl B.K Wo E l) [] (fun _ _ => True) (fun _ _ _ => trivial) _ lxt).sim F ρ σ H D E l1 w k1
end
/-! ### what a clause reads of its error -/
section
variable {X : Cx} {B : Bs} {a C : Addr} {oe : Obj} {cls : Value} {d : Option Addr} {pn : List (Addr × Obj)} {e : Expr} {tE : TE} {te : DT} {pos : Pos}
def dXf (B : Bs) (a C : Addr) (cls : Value) (d : Option Addr) (f : Str) (te : DT) : DT := fun ρ P => te ρ fun r ρ1 => r = .dat (.cls a) ∧ cls = .ref C ∧ ∃ fs v, fs ≠ [] ∧ XF B C fs d ∧ fs.lookup f = some v ∧ P (.dat v) ρ1
theorem RvA.look {K : PySem.W.Frag} {hd : Option Addr} {F : Hp} {f : Str} {v : D} : ∀ {fs : List (Str × D)} {fv : List (Str × V)}, fv.map (·.1) = fs.map (·.1) → RvA K hd F (fv.map (·.2)) (fs.map (·.2)) → fs.lookup f = some v → ∃ x, fv.lookup f = some x ∧ Rv K hd F x v
  | [], _, _, _, e => by cases e
  | (n, w) :: fs, [], h, _, _ => by cases h
  | (n, w) :: fs, (m, x) :: fv, h, r, e => by
    rw [List.map_cons, List.map_cons] at h
    injection h with h1 h2
    cases r with
    | cons r1 r2 =>
      have h1' : m = n := h1
      subst h1'
      rw [List.lookup_cons] at e ⊢
      cases q : f == m with
      | true =>
        rw [q] at e
        cases e
        exact ⟨x, rfl, r1⟩
      | false =>
        rw [q] at e
        exact RvA.look h2 r2 e
theorem de_xf {n : Str} (T : XfC X.K C) (hno : PySem.W.findIn X.K (.ref C) n = some none) (hz : Zc cls d oe) (hf : ∃ vs, oe.data = .fields vs) (h : DE (X.suite a ((a, oe) :: pn)) B e tE te) (hb : attributeBase e n X.env (eval e X.env) = eval e X.env := by rfl) :
    DE (X.suite a ((a, oe) :: pn)) B (.Attribute e n pos) (tXf a cls d C n tE) (dXf B a C cls d n te) := by
  refine ⟨pe_xf T hno hz hf h.pe hb, fun F ρ σ H P Q l w k => h.sim F ρ σ H _ _ l w fun r v F' ρ' H' l' s kp rv ⟨er, ec, fs, dv, ne, x, lk, p⟩ => ?_⟩
  subst er
  cases rv
  rcases x with ⟨dd, fv, rfl, e1, e2, e3⟩ | ⟨z, _⟩
  · obtain ⟨y, ly, ry⟩ := e3.look e2 lk
    exact ⟨rfl, ec, dd, fv, y, rfl, l'.sub _ _ (l'.fro _ _ e1), ly, k (.dat dv) y F' ρ' H' l' s kp (ry.mono l'.fro) p⟩
  · exact absurd z ne
end
/-! ### isinstance of a caught error -/
structure IsC (K : PySem.W.Frag) (C : Addr) : Prop where
  hcl : (PySem.W.clsIn K C).isSome = true
  hgt : PySem.W.findIn K (.ref C) "__getattr__" = some none
  ha : PySem.W.findIn K (.ref C) "__class__" = some (some (.builtin "object.__class__"))
  hn : PySem.W.specialIn K (.builtin "object.__class__") "__get__" = some (some (.builtin "getset_descriptor.__get__"))
  ht : PySem.W.takesIn K (.builtin "object.__class__") = some true
  hm : PySem.W.mroIn K C (.type "object") = some true
  xf : XfC K C
section
variable {X : Cx} {B : Bs} {a C : Addr} {oe : Obj} {cls : Value} {d : Option Addr} {pn : List (Addr × Obj)} {e ce : Expr} {tE : TE} {te : DT} {p pos : Pos} {c : V} {u : Value} {b : Bool}
def rIsE (K : PySem.W.Frag) (a C : Addr) (cls : Value) (d : Option Addr) (u : Value) : List V → Hp → VK → Prop := fun xs H Q => ∃ (dd : Addr) (fs : List (Str × V)) (c : V) (b : Bool), cls = .ref C ∧ d = some dd ∧ H dd = some (.xd fs) ∧ xs = [.ref a, c] ∧ ClsV c u ∧ PySem.W.kitOne K (.ref C) u = some b ∧ Q (.bl b) H
theorem call_isE (T : IsC X.K C) (hz : Zc cls d oe) (hf : ∃ vs, oe.data = .fields vs) : CallR (X.suite a ((a, oe) :: pn)) (.builtin "isinstance") (rIsE X.K a C cls d u) := by
  intro pins s σ H xs us Q inv rl want
  obtain ⟨dd, fs, c, b, rfl, rfl, hd, rfl, k, e, q⟩ := want
  obtain ⟨at0, _⟩ := inv.pin (a, oe) (List.mem_append_left _ List.mem_cons_self)
  obtain ⟨vs, hv⟩ := hf
  have there : ObjOk X.prog X.w H s.heap dd (.xd fs) := inv.hok dd _ hd
  obtain ⟨mA, hns, _⟩ := there
  obtain ⟨od, ho, _⟩ := lookIn_ns hns
  have J : PySem.W.InstAt s.heap a oe C (some od) := ⟨at0, hz.1, by unfold PySem.W.notCls; rw [hv] <;> rfl, by rw [hz.2]; exact ho⟩
  have Y := PySem.W.kitx_exc (x := a) (ox := oe) (od := some od) T.hcl T.xf.ga T.hgt T.xf.exC T.ha T.hn T.ht T.hm
  cases rl with
  | cons r1 rr =>
    cases rr with
    | cons r2 rr =>
      cases rr
      cases r1
      have e2 := k.eq r2
      subst e2
      exact PySem.W.kia_one Y inv.kIn J e (fun z => nomatch z) fun tk => ⟨.bl b, H, inv.tok tk, rfl, q⟩
def dIsE (B : Bs) (a C : Addr) (cls : Value) (d : Option Addr) (u : Value) (te : DT) : DT := fun ρ P => te ρ fun r ρ1 => r = .dat (.cls a) ∧ cls = .ref C ∧ ∃ fs b, fs ≠ [] ∧ XF B C fs d ∧ PySem.W.kitOne B.K (.ref C) u = some b ∧ P (.dat (.bl b)) ρ1
theorem de_isE (T : IsC X.K C) (hz : Zc cls d oe) (hf : ∃ vs, oe.data = .fields vs) (hg : Gl X "isinstance") (hm : X.mg "isinstance" = none) (h : DE (X.suite a ((a, oe) :: pn)) B e tE te) (hc : PE (X.suite a ((a, oe) :: pn)) ce (tC c)) (kc : ClsV c u) (hK : X.K = B.K := by rfl)
    (he : starEach [e, ce] X.env = (false, eval e X.env) :: starEach [ce] X.env := by rfl) (he2 : starEach [ce] X.env = (false, eval ce X.env) :: starEach [] X.env := by rfl) (hpl : (backTo pos (starEach [ce] X.env)).any (·.1) = false := by rfl) :
    DE (X.suite a ((a, oe) :: pn)) B (.Call (.Name "isinstance" p) [e, ce] [] pos) (tCB (rIsE X.K a C cls d u) (tCons tE (tCons (tC c) tNil))) (dIsE B a C cls d u te) := by
  refine ⟨pe_callB (X := X.suite a ((a, oe) :: pn)) (call_isE T hz hf) hg hm (by decide +kernel) (pa_cons h.pe (pa_cons hc pa_nil he2) he) (by decide) (by decide) he hpl, fun F ρ σ H P Q l w k => h.sim F ρ σ H _ _ l w fun r v F' ρ' H' l' s kp rv ⟨er, ec, fs, b, ne, x, kb, p⟩ => ?_⟩
  subst er
  cases rv
  rcases x with ⟨dd, fv, rfl, e1, e2, e3⟩ | ⟨z, _⟩
  · exact ⟨dd, fv, c, b, ec, rfl, l'.sub _ _ (l'.fro _ _ e1), rfl, kc, by rw [hK]; exact kb, k (.dat (.bl b)) _ F' ρ' H' l' s kp (.bl b) p⟩
  · exact absurd z ne
end
theorem takesF {X : Cx} : Takes X (fun _ _ _ _ => False) := fun _ _ ⟨_, _, _, _, _, _, _, _, _, _, _, _, _, _, _, _, w⟩ => w.elim
theorem lxtF {B : Bs} : LXT B (fun _ _ _ => False) (fun _ _ _ _ => False) := ⟨fun _ _ _ _ _ _ _ _ _ _ _ _ q => q.elim, fun _ _ _ _ _ _ q => q.elim⟩
/-! ### an error's __init__ -/
section
variable {P : Program} {w : World} {K : PySem.W.Frag} {mg : Str → Option Value} {base : Heap} {N ps : List Str} {qual : Str} {st : Stmt} {f C : Addr} {fd : FuncData}
theorem start0 {N : List Str} {vs : List V} {i : Nat} {v : V} (e : vs[i]? = some v) : (L2.start N vs)[i]? = some (some v) := by
  have hl := (List.getElem?_eq_some_iff.mp e).1
  unfold L2.start
  rw [List.getElem?_append_left (by simpa using hl), List.getElem?_map, e]
  rfl
theorem ok_ex1 {f1 : Str} (F : Fun K "__init__" qual st f fd) (S : FnScope N ps (defScope st)) (ox : OexC K C) (n1 : PySem.W.findIn K (.ref C) f1 = some none) (hl : ps.length = 2)
    (hb : ∀ (cdv : Value) (A : Around) (outer : List PySem.Env) (s : Shared) (H : Hp) (E : XK), PSs (cxOf CX0 P w K mg base N qual (defScope st) f cdv A outer s H E).nox (defBody st) (tOst K f1 (tVar 0) (tVar 1))) : FnOk P w K mg base CX0 1 f fd ps (spEx C [f1]) := by
  refine F.ok S (fun vs H Q E h => ?_) (fun cdv A outer s H vs Q E hr h => ⟨_, hb cdv A outer s H E, ?_⟩)
  · obtain ⟨a, xs, rfl, e, _⟩ := h
    rw [hl, List.length_cons, e]
    rfl
  · obtain ⟨a, xs, rfl, e, ha, k⟩ := h
    match xs, e with
    | [x], _ =>
      refine ⟨x, start0 rfl, .ref a, start0 rfl, a, C, rfl, ox, n1, .inl ⟨ha, fun d hd nd => ?_⟩⟩
      refine k d _ hd nd upd_same ?_ fun b na nb => ?_
      · rw [upd_ne nd]
        exact upd_same
      · rw [upd_ne na, upd_ne nb]
theorem okDDX {x : Str} {k : Nat} {W : DW} {dvs : List V} {kws : List (Str × V)} (F : FunD K x qual (defArgs st) (defBody st) (defScope st) dvs kws f fd) (S : FnScope N ps (defScope st)) (hlen : ∀ ds Q ex, W ds Q ex → ds.length = ps.length)
    (hb : ∀ (cdv : Value) (A : Around) (outer : List PySem.Env) (s : Shared) (H : Hp) (E : XK), Room k (A.deeper (PyProof.Rows.envOfC qual (defScope st) s.heap.objs.size f cdv)) → ∀ (md : Option (Addr × Addr)) (F0 : Hp) (a0 : ∀ p, md = some p → H p.2 ≠ none) (ex : EXD), LX ⟨K, md, F0, H, a0⟩ ex E →
      ∃ tS t, DSs (cxOf (L2.CX P w) P w K mg base N qual (defScope st) f cdv A outer s H E) ⟨K, md, F0, H, a0⟩ (defBody st) tS t ∧ ∀ ds Q, W ds Q ex → t { nx := fun _ => Q (.dat .non), rt := Q } (startD N ds)) : FnOk P w K mg base (L2.CX P w) (k + 1) f fd ps (spD K W) := by
  refine F.ok S (sp_len hlen) fun cdv A outer s H vs Q E hr h => ?_
  obtain ⟨⟨K', md, F0, H0, a0⟩, ds, P', ex, rfl, rfl, ok, a, w, hk, hl⟩ := h
  obtain ⟨tS, t, d, q⟩ := hb cdv A outer s H0 E hr md F0 a0 ex hl
  exact ⟨tS, d.ps, sp_body ok a hk d.sim (q ds P' w)⟩
end
end Z

set_option Elab.async false
set_option linter.all false
set_option maxRecDepth 100000
namespace Z
open PySem L2
/-! ## loops by invariants -/
theorem dFor_ind {g : DGT} {tb : DST} {E : DEnds} (I : List D → En → Prop) (h0 : ∀ ρ, I [] ρ → E.nx ρ)
    (h1 : ∀ d ds (C : En → Prop) ρ, I (d :: ds) ρ → (∀ ρ', I ds ρ' → C ρ') → g d ρ fun ρ1 => tb { E with nx := C, ct := C, bk := E.nx } ρ1) : ∀ ds ρ, I ds ρ → dForL g tb E ds ρ
  | [], ρ, h => h0 ρ h
  | d :: ds, ρ, h => h1 d ds _ ρ h fun ρ' h' => dFor_ind I h0 h1 ds ρ' h'
theorem dLc_ind {g : DGT} {tt : DBT} {te : DT} {ρl : En} {ho : Bool} {P : List D → Prop} (I : List D → List D → Prop) (h0 : ∀ acc, I [] acc → P acc)
    (h1 : ∀ d ds acc (C : List D → Prop), I (d :: ds) acc → (∀ acc', I ds acc' → C acc') → g d ρl fun ρ2 => tt ρ2 fun b ρ3 => if b = true then te ρ3 fun r ρ4 => acc.length < sizeLine ∧ r.isVar = false ∧ (ho = true → noL (vl ρ4 r) = true) ∧ C (acc ++ [vl ρ4 r]) else C acc) :
    ∀ ds acc, I ds acc → dLcL g tt te ρl ho ds acc P
  | [], acc, h => h0 acc h
  | d :: ds, acc, h => h1 d ds acc _ h fun acc' h' => dLc_ind I h0 h1 ds acc' h'
/-- each element by a function -/
theorem dLc_map {g : DGT} {tt : DBT} {te : DT} {ρl : En} {ho : Bool} {P : List D → Prop} (f : D → Option D) {ds : List D} (hz : ds.length ≤ 2 ^ 24) (hn : ∀ d ∈ ds, ∀ e, f d = some e → ho = true → noL e = true)
    (h1 : ∀ d ∈ ds, ∀ (T : R → En → Prop) (C0 : Prop), (match f d with | some e => ∀ r ρ4, r.isVar = false → vl ρ4 r = e → T r ρ4 | none => C0) → g d ρl fun ρ2 => tt ρ2 fun b ρ3 => if b = true then te ρ3 T else C0) (p : P (ds.filterMap f)) : dLcL g tt te ρl ho ds [] P := by
  have key : ∀ es acc, (∀ d ∈ es, d ∈ ds) → acc.length + es.length ≤ 2 ^ 24 → acc ++ es.filterMap f = ds.filterMap f → dLcL g tt te ρl ho es acc P := by
    intro es
    induction es with
    | nil =>
      intro acc _ _ e
      rw [List.filterMap_nil, List.append_nil] at e
      show P acc
      rw [e]
      exact p
    | cons d es ih =>
      intro acc hm hl e
      rw [List.length_cons] at hl
      refine h1 d (hm d List.mem_cons_self) _ _ ?_
      cases q : f d with
      | none =>
        refine ih acc (fun x hx => hm x (List.mem_cons_of_mem _ hx)) (by omega) ?_
        rw [List.filterMap_cons, q] at e
        exact e
      | some y =>
        intro r ρ4 hr hv
        refine ⟨by exact Nat.lt_of_lt_of_le (by omega : acc.length < 2 ^ 24) (by decide), hr, fun h => by rw [hv]; exact hn d (hm d List.mem_cons_self) y q h, ih _ (fun x hx => hm x (List.mem_cons_of_mem _ hx)) (by rw [List.length_append]; show acc.length + 1 + _ ≤ _; omega) ?_⟩
        rw [List.filterMap_cons, q] at e
        rw [hv, List.append_assoc]
        exact e
  exact key ds [] (fun _ h => h) (by simpa using hz) rfl
/-- enumerate from a number on -/
def enF : Nat → List D → List D
  | _, [] => []
  | k, d :: ds => .tup [.int (k : Nat), d] :: enF (k + 1) ds
theorem enF_get : ∀ (ds : List D) (k i : Nat), (enF k ds)[i]? = (ds[i]?).map fun d => .tup [.int ((k + i : Nat) : Int), d]
  | [], k, i => by simp [enF]
  | d :: ds, k, 0 => by simp [enF]
  | d :: ds, k, i + 1 => by
    rw [enF, List.getElem?_cons_succ, List.getElem?_cons_succ, enF_get ds (k + 1) i, show k + 1 + i = k + (i + 1) by omega]
theorem enD_eq (ds : List D) : enD ds = enF 0 ds := by
  refine List.ext_getElem? fun i => ?_
  rw [enF_get]
  cases e : ds[i]? with
  | none =>
    rw [List.getElem?_eq_none (by rw [enD_len]; exact List.getElem?_eq_none_iff.mp e)]
    rfl
  | some d =>
    rw [enD_get e, Nat.zero_add]
    rfl
/-! ## an assignment to a tuple of names -/
def dAsg (te : DT) (g : DGT) : DST := fun D ρ => te ρ fun r ρ1 => g (vl ρ1 r) (mvE ρ1 r) D.nx
section
variable {X : Cx} {B : Bs} {F H : Hp} {ρ : En} {σ : L2.St} {tg e : Expr} {tE : TE} {te : DT} {g : TG} {dg : DGT} {sl : List Nat} {pos : Pos}
theorem ds_asg (h : DE X B e tE te) (hg : DG X B tg sl g dg) (hs : swapsWithSole [tg] e pos.line X.env = pure false := by rfl) (hw : swappedStores [tg] e X.env = pure none := by rfl) (h1 : (assignEach [tg] X.env).map (·.2) = [assign tg X.env] := by rfl) :
    DS X B (.Assign [tg] e pos) (tAsg tE g) (dAsg te dg) := by
  refine ⟨ps_asg h.pe hg.pg hs hw h1, fun F ρ σ H D E l w k => h.sim.frz F ρ σ H _ _ l w fun r v F' ρ' H' l' s kp rv p => ?_⟩
  obtain ⟨F2, s2, l2, v2⟩ := l'.mv rv
  exact hg.sim F2 _ σ H' v _ _ _ l2 v2 p fun F3 ρ3 σ3 H3 l3 s3 _ q => k.nx F3 ρ3 σ3 H3 l3 (s.trans (s2.trans s3)) q
/-! ## own dicts -/
def dDnew (i : Nat) : DST := fun D ρ => D.nx (ρ.set i (some (.dic [] [])))
theorem ds_dnew {i : Nat} {x : Str} {pos' p2 : Pos} (hN : X.N.Nodup) (hi : X.N[i]? = some x) (hx : Loc X.env.scope x) (hs : swapsWith (.Dict [] [] p2) (some (.Name x pos')) pos.line X.env = pure false := by rfl) (hf : X.fn x = true ∨ X.env.scope.names.lookup x = some .local := by first | exact .inl rfl | exact .inr rfl | assumption) :
    DS X B (.Assign [.Name x pos'] (.Dict [] [] p2) pos) (tAsg tDNewK (gName i)) (dDnew i) := by
  refine ⟨ps_set hN hi hx pe_dnewK hs hf, fun F ρ σ H D E l w k p np => ?_⟩
  have l2 := l.newO (u := .dK []) np
  refine k.nx F _ _ _ (l2.set (o := .dic [] []) ⟨p, [], rfl, upd_same, rfl, .nil, l.noF np, l.no0 np⟩ fun _ j o' e w z => ?_) (Same.refl _) w
  obtain ⟨q, u, e1, h1, _⟩ := l.own e w
  rw [e1] at z
  cases z
  rw [h1] at np; cases np
def keyD : D → Option Key
  | .int i => some (.inl i)
  | .str x => some (.inr x)
  | _ => none
def dOf : Key → D
  | .inl i => .int i
  | .inr x => .str x
def hasK (ks : List Key) (k : Key) : Bool := ks.any fun x => decide (x = k)
def putKs (ks : List Key) (k : Key) : List Key := if hasK ks k = true then ks else ks ++ [k]
def putDs (ks : List Key) (ds : List D) (k : Key) (d : D) : List D := if hasK ks k = true then (ks.zip ds).map fun p => if p.1 = k then d else p.2 else ds ++ [d]
theorem put_rv {K : PySem.W.Frag} {hd : Option Addr} {F : Hp} {kv : List (Key × V)} {ds : List D} {k : Key} {v : V} {d : D} (h : RvA K hd F (kv.map (·.2)) ds) (hv : Rv K hd F v d) :
    (putK kv k v).map (·.1) = putKs (kv.map (·.1)) k ∧ RvA K hd F ((putK kv k v).map (·.2)) (putDs (kv.map (·.1)) ds k d) := by
  have e : (kv.any fun x => decide (x.1 = k)) = hasK (kv.map (·.1)) k := by
    unfold hasK
    rw [List.any_map]
    rfl
  unfold putK putKs putDs
  rw [e]
  by_cases m : hasK (kv.map (·.1)) k = true
  · rw [if_pos m, if_pos m, if_pos m]
    refine ⟨?_, ?_⟩
    · rw [List.map_map]
      refine List.map_congr_left fun x _ => ?_
      show (if x.1 = k then (x.1, v) else x).1 = x.1
      split <;> rfl
    · clear m e
      induction kv generalizing ds with
      | nil => cases h; exact .nil
      | cons x kv ih =>
        cases h with
        | cons a b =>
          refine .cons ?_ (ih b)
          show Rv K hd F (if x.1 = k then (x.1, v) else x).2 (if x.1 = k then d else _)
          split
          · exact hv
          · exact a
  · rw [if_neg m, if_neg m, if_neg m, List.map_append, List.map_append]
    exact ⟨rfl, h.app (.cons hv .nil)⟩
def dicAt (ρ : En) (i : Nat) (P : List Key → List D → Prop) : Prop := match ρ[i]? with
  | some (some (.dic ks ds)) => P ks ds
  | _ => False
theorem dicAt_of {ρ : En} {i : Nat} {P : List Key → List D → Prop} (h : dicAt ρ i P) : ∃ ks ds, ρ[i]? = some (some (.dic ks ds)) ∧ P ks ds := by
  unfold dicAt at h
  match e : ρ[i]?, h with
  | some (some (.dic ks ds)), h => exact ⟨ks, ds, rfl, h⟩
def dDput (i : Nat) (tk tv : DT) : DST := fun D ρ => tv ρ fun rv ρ1 => rv.isVar = false ∧ (∃ ks ds, ρ1[i]? = some (some (.dic ks ds))) ∧ tk ρ1 fun rk ρ2 => dicAt ρ2 i fun ks ds => ∃ d k, rk = .dat d ∧ keyD d = some k ∧ ks.length < sizeLine ∧ D.nx (ρ2.set i (some (.dic (putKs ks k) (putDs ks ds k (vl ρ2 rv)))))
theorem Rel.mutD (l : Rel B F ρ σ H) {i : Nat} {ks : List Key} {ds : List D} (e : ρ[i]? = some (some (.dic ks ds))) : ∃ p kv, σ[i]? = some (some (.ref p)) ∧ H p = some (.dK kv) ∧ kv.map (·.1) = ks ∧ RvA B.K B.hd F (kv.map (·.2)) ds ∧ ∀ kv' ds', RvA B.K B.hd F (kv'.map (·.2)) ds' → Rel B F (ρ.set i (some (.dic (kv'.map (·.1)) ds'))) σ (L2.upd H p (.dK kv')) := by
  obtain ⟨v, es, p, kv, rfl, h1, h2, h3, n, n0⟩ := l.var i _ e
  exact ⟨p, kv, es, h1, h2, h3, fun kv' ds' a => l.mutO e rfl es ⟨p, kv', rfl, upd_same, rfl, a, n, n0⟩⟩
theorem keyD_kV {K : PySem.W.Frag} {hd : Option Addr} {F : Hp} {d : D} {k : Key} {v : V} (h : Rv K hd F v d) (e : keyD d = some k) : v = kV k := by
  cases d <;> first | cases e | skip
  · cases h; rfl
  · cases h; rfl
theorem hu_of {k : Nat} {A : Around} (r : Room k A) : A.units + 1 < cLine := by have := r.units; omega
theorem ds_dput {o ke ve : Expr} {tK tV : TE} {tk tv : DT} {i : Nat} {pos' : Pos} (hu : X.A.units + 1 < cLine) (ho : PE X o (tVar i)) (hk : DE X B ke tK tk) (hv : DE X B ve tV tv) (hs : swapsWith ve (some (.Subscript o ke pos')) pos.line X.env = pure false := by rfl) :
    DS X B (.Assign [.Subscript o ke pos'] ve pos) (sDPut (tVar i) tK tV) (dDput i tk tv) := by
  refine ⟨ps_dput hu ho hk.pe hv.pe hs, fun F ρ σ H D E l w k => hv.sim.frz F ρ σ H _ _ l w fun r v F1 ρ1 H1 l1 s1 k1 rv1 ⟨nv, ⟨ks1, ds1, ed⟩, p⟩ => ?_⟩
  obtain ⟨p0, _, es, _⟩ := l1.mutD ed
  refine ⟨_, es, hk.sim F1 ρ1 σ H1 _ _ l1 p fun r2 v2 F2 ρ2 H2 l2 s2 k2 rv2 q => ?_⟩
  obtain ⟨ks, ds, e2, d, kk, er, ek, hz, q⟩ := dicAt_of q
  subst er
  obtain ⟨p', kv, es', h1, h2, h3, m⟩ := l2.mutD e2
  rw [es] at es'
  cases es'
  have rv : Rv B.K B.hd F2 v (vl ρ2 r) := by
    cases r with
    | dat d => exact Rv.mono rv1 s2
    | new ds => exact Rv.mono rv1 s2
    | var i => cases nv
  obtain ⟨q1, q2⟩ := put_rv (k := kk) h3 rv
  subst h2
  have hl : kv.length < sizeLine := by simpa using hz
  have dp : DPut H2 p0 v2 v (L2.upd H2 p0 (.dK (putK kv kk v))) := by
    rw [keyD_kV rv2 ek]
    exact .k h1 hl
  have l3 := m _ _ q2
  rw [q1] at l3
  exact ⟨p0, _, rfl, dp, k.nx F2 _ σ _ l3 (s1.trans s2) q⟩
/-! ### tuple(d) -/
def rTupD : List V → Hp → VK → Prop := fun xs H Q => ∃ (a : Addr) (kvs : List (Key × V)), xs = [.ref a] ∧ H a = some (.dK kvs) ∧ ∀ p, H p = none → Q (.ref p) (L2.upd H p (.tup (kvs.map fun kv => kV kv.1)))
theorem ktupD (hc : X.calm = true) : CallR X (.type "tuple") rTupD := ZT.call_tupD hc
def dTupD : List D → (R → Prop) → Prop
  | [.dct ks _], P => P (.dat (.tup (ks.map dOf)))
  | _, _ => False
theorem rva_keys {K : PySem.W.Frag} {hd : Option Addr} {F : Hp} : ∀ ks : List Key, RvA K hd F (ks.map kV) (ks.map dOf)
  | [] => .nil
  | .inl i :: ks => .cons (.int i) (rva_keys ks)
  | .inr x :: ks => .cons (.str x) (rva_keys ks)
theorem noL_keys : ∀ ks : List Key, noLA (ks.map dOf) = true
  | [] => rfl
  | .inl i :: ks => by simpa [noLA, noL, dOf] using noL_keys ks
  | .inr x :: ks => by simpa [noLA, noL, dOf] using noL_keys ks
theorem cad_tupD : CaD B rTupD dTupD := by
  intro F ρ σ H xs ds P Q l a w k
  match ds, w with
  | [.dct ks es], w =>
    obtain ⟨v, rfl, r⟩ := a.one
    cases r with
    | @dct p kv _ _ a1 a2 a3 =>
      refine ⟨p, kv, rfl, l.sub _ _ a1, fun q nq => ?_⟩
      have e : (kv.map fun x => kV x.1) = ks.map kV := by rw [← a2, List.map_map]; rfl
      rw [e]
      obtain ⟨l3, s3⟩ := l.newF (u := .tup (ks.map kV)) nq
      exact k (.dat _) _ _ _ l3 s3 (Rv.tup (SqT.of upd_same) (rva_keys ks)) w
end
end Z

set_option Elab.async false
set_option linter.all false
set_option maxRecDepth 100000
namespace Z
open PySem L2
/-! ## small facts of values -/
theorem enum_go {row : D} {ds : List D} {X : List D → Prop} (e : seqOfD row = some ds) (h : X ds) : (∃ ds, row = .lst ds ∧ X ds) ∨ ∃ ds, (row = .tup ds ∨ row = .tpx ds) ∧ X ds := by
  cases row <;> first | cases e | skip
  · exact .inl ⟨_, rfl, h⟩
  · exact .inr ⟨_, .inl rfl, h⟩
  · exact .inr ⟨_, .inr rfl, h⟩
/-- one statement at a time -/
theorem sq_go {t u : DST} {D : DEnds} {ρ : En} (h : ∀ S : En → Prop, (∀ ρ1, u D ρ1 → S ρ1) → t { D with nx := S } ρ) : dSq t u D ρ := h (u D) fun _ x => x
theorem ite_t {c : Prop} {i : Decidable c} {a b : Prop} (h : c) (x : a) : @ite Prop c i a b := by rw [if_pos h]; exact x
theorem ite_f {c : Prop} {i : Decidable c} {a b : Prop} (h : ¬ c) (x : b) : @ite Prop c i a b := by rw [if_neg h]; exact x
theorem ite_b {c : Prop} {i : Decidable c} {a b : Prop} (x : a) (y : b) : @ite Prop c i a b := by by_cases h : c; exact ite_t h x; exact ite_f h y
theorem ite_d {c : Prop} {i : Decidable c} {a b : Prop} (x : c → a) (y : ¬ c → b) : @ite Prop c i a b := by by_cases h : c; exact ite_t h (x h); exact ite_f h (y h)
theorem flat_ints (ns : List Int) : (ns.map D.int).all flatD = true := by
  rw [List.all_eq_true]
  intro x hx
  obtain ⟨i, _, rfl⟩ := List.mem_map.mp hx
  rfl
theorem in_ints (i : Int) (ns : List Int) : inD (.int i) (ns.map D.int) = decide (i ∈ ns) := by
  unfold inD inV
  rw [Bool.eq_iff_iff, List.any_eq_true, decide_eq_true_eq]
  constructor
  · rintro ⟨x, hx, e⟩
    rw [List.map_map] at hx
    obtain ⟨j, hj, rfl⟩ := List.mem_map.mp hx
    have : (j == i) = true := e
    rw [beq_iff_eq] at this
    exact this ▸ hj
  · intro h
    refine ⟨.int i, ?_, ?_⟩
    · rw [List.map_map]
      exact List.mem_map.mpr ⟨i, h, rfl⟩
    · show (i == i) = true
      simp
theorem toPy_ints : ∀ ns : List Int, toPyA (ns.map D.int) = ns.map PyData.int
  | [] => rfl
  | n :: ns => by rw [List.map_cons, toPyA, toPy, toPy_ints ns]; rfl
theorem eqv_ints : ∀ ns ms : List Int, PyData.eqvAll (ns.map PyData.int) (ms.map PyData.int) = decide (ns = ms)
  | [], [] => by simp [PyData.eqvAll]
  | [], _ :: _ => by simp [PyData.eqvAll]
  | _ :: _, [] => by simp [PyData.eqvAll]
  | n :: ns, m :: ms => by
    rw [List.map_cons, List.map_cons, PyData.eqvAll, eqv_ints ns ms, PyData.eqv]
    by_cases h : n = m <;> by_cases g : ns = ms <;> simp [h, g]
theorem pyd_ints : ∀ ns : List Int, pydA (ns.map D.int) = true
  | [] => rfl
  | n :: ns => by rw [List.map_cons, pydA, pyd_ints ns]; rfl
def tupI (d : D) (ns : List Int) : Prop := d = .tup (ns.map D.int) ∨ d = .tpx (ns.map D.int)
theorem tupI.seq {d : D} {ns : List Int} (h : tupI d ns) : seqOfD d = some (ns.map D.int) := by rcases h with rfl | rfl <;> rfl
theorem tupI.py {d : D} {ns : List Int} (h : tupI d ns) : toPy d = .tuple (ns.map PyData.int) := by
  rcases h with rfl | rfl
  · rw [toPy, toPy_ints]
  · rw [toPy, toPy_ints]
theorem eq_tupI {a b : D} {ns ms : List Int} (ha : tupI a ns) (hb : tupI b ms) : eqD a b = decide (ns = ms) := by
  unfold eqD
  rw [ha.py, hb.py, PyData.eqv, eqv_ints]
theorem canLay_ints : ∀ ns : List Int, PyData.canLayAll0 (ns.map PyData.int) = true
  | [] => rfl
  | n :: ns => by rw [List.map_cons, PyData.canLayAll0, canLay_ints ns]; rfl
theorem depth_ints : ∀ ns : List Int, PyData.depthAll (ns.map PyData.int) = 0
  | [] => rfl
  | n :: ns => by rw [List.map_cons, PyData.depthAll, depth_ints ns]; rfl
theorem shp_tupI {a : D} {ns : List Int} (ha : tupI a ns) : shp a = true := by
  unfold shp SeqAt.shaped
  rw [ha.py]
  have e : pyd a = true := by rcases ha with rfl | rfl <;> (rw [pyd]; exact pyd_ints ns)
  rw [e, PyData.canLay0, canLay_ints, PyData.depth, depth_ints]
  rfl
theorem cut_to {xs : List D} {k : Nat} : cutD xs none (some (k : Int)) = xs.take k := by
  unfold cutD
  rw [HT.sIx_none, HT.sIx_nat, List.drop_zero, Nat.sub_zero]
  by_cases h : k ≤ xs.length
  · rw [Nat.min_eq_left h]
  · rw [Nat.min_eq_right (by omega), List.take_length, List.take_of_length_le (by omega)]
theorem dSlv_of {row : D} {all : List D} {lo hi : Option Int} {P : R → Prop} (e : seqOfD row = some all) (h : ∀ x : R, x.isVar = false → (∀ ρ, seqOfD (vl ρ x) = some (cutD all lo hi)) → P x) : dSlv lo hi row P := by
  cases row <;> first | cases e | skip
  · exact h _ rfl fun _ => rfl
  · exact h _ rfl fun _ => rfl
  · exact h _ rfl fun _ => rfl
theorem dLc_ints {g : DGT} {tt : DBT} {te : DT} {ρl : En} {ho : Bool} {P : List D → Prop} {ns : List Int} (p : Int → Bool) (f : Int → D) (hz : ns.length ≤ 2 ^ 24) (hn : ∀ i ∈ ns, ho = true → noL (f i) = true)
    (h1 : ∀ i ∈ ns, ∀ (T : R → En → Prop) (C0 : Prop), (p i = true → ∀ r ρ4, r.isVar = false → vl ρ4 r = f i → T r ρ4) → (p i = false → C0) → g (.int i) ρl fun ρ2 => tt ρ2 fun b ρ3 => if b = true then te ρ3 T else C0) (q : P ((ns.filter p).map f)) : dLcL g tt te ρl ho (ns.map D.int) [] P := by
  let F : D → Option D := fun d => match d with
    | .int i => if p i = true then some (f i) else none
    | _ => none
  have e : (ns.map D.int).filterMap F = (ns.filter p).map f := by
    clear hz hn h1 q
    induction ns with
    | nil => rfl
    | cons i ns ih =>
      rw [List.map_cons, List.filterMap_cons, List.filter_cons, ih]
      have hF : F (.int i) = if p i = true then some (f i) else none := rfl
      rw [hF]
      cases p i <;> rfl
  refine dLc_map F (by simpa using hz) (fun d hd y hy ho' => ?_) (fun d hd T C0 w => ?_) (by rw [e]; exact q)
  · obtain ⟨i, hi, rfl⟩ := List.mem_map.mp hd
    have hy : (if p i = true then some (f i) else none) = some y := hy
    split at hy
    · cases hy
      exact hn i hi ho'
    · cases hy
  · obtain ⟨i, hi, rfl⟩ := List.mem_map.mp hd
    have w : match (if p i = true then some (f i) else none) with | some e => ∀ r ρ4, r.isVar = false → vl ρ4 r = e → T r ρ4 | none => C0 := w
    refine h1 i hi T C0 (fun h => ?_) fun h => ?_
    · rw [h] at w
      exact w
    · rw [h] at w
      exact w
/-! ## reading by cases -/
section
variable {ds : List D} {ks : List Key} {P : R → Prop} {d a : D} {b : Bool} {i : Int} {ρ : En} {n : Nat} {lo hi : Option Int} {x : Str}
theorem sq_l : seqOfD (.lst ds) = some ds := rfl
theorem sq_t : seqOfD (.tup ds) = some ds := rfl
theorem sq_x : seqOfD (.tpx ds) = some ds := rfl
theorem tr_n : truD .non = some false := rfl
theorem tr_b : truD (.bl b) = some b := rfl
theorem tr_i : truD (.int i) = some (i != 0) := rfl
theorem tr_l : truD (.lst ds) = some (!ds.isEmpty) := rfl
theorem tr_t : truD (.tup ds) = some (!ds.isEmpty) := rfl
theorem tr_x : truD (.tpx ds) = some (!ds.isEmpty) := rfl
theorem tr_d : truD (.dct ks ds) = some (!ks.isEmpty) := rfl
theorem vl_d : vl ρ (.dat d) = d := rfl
theorem vl_n : vl ρ (.new ds) = .lst ds := rfl
theorem vl_v : vl ρ (.var n) = match ρ[n]? with | some (some o) => o.frz | _ => .non := rfl
theorem fr_d : (OV.dat d).frz = d := rfl
theorem fr_o : (OV.own ds).frz = .lst ds := rfl
theorem fr_k : (OV.dic ks ds).frz = .dct ks ds := rfl
theorem sl_l : dSlv lo hi (.lst ds) P = P (.new (cutD ds lo hi)) := rfl
theorem sl_t : dSlv lo hi (.tup ds) P = P (.dat (.tup (cutD ds lo hi))) := rfl
theorem sl_x : dSlv lo hi (.tpx ds) P = P (.dat (.tup (cutD ds lo hi))) := rfl
theorem le_1 : dLen [a] P = match seqOfD a with | some ds => P (.dat (.int ds.length)) | none => False := rfl
theorem li_1 : dList [a] P = match seqOfD a with | some ds => P (.new ds) | none => False := rfl
theorem tu_1 : dTuple [a] P = match tupOfD a with | some d => P (.dat d) | none => False := rfl
theorem tu_l : tupOfD (.lst ds) = some (.tup ds) := rfl
theorem tu_t : tupOfD (.tup ds) = some (.tup ds) := rfl
theorem tu_x : tupOfD (.tpx ds) = some (.tpx ds) := rfl
theorem tx_1 : dTupX [a] P = match tpxOfD a with | some d => P (.dat d) | none => False := rfl
theorem tx_l : tpxOfD (.lst ds) = some (.tpx ds) := rfl
theorem tx_t : tpxOfD (.tup ds) = some (.tup ds) := rfl
theorem tx_x : tpxOfD (.tpx ds) = some (.tpx ds) := rfl
theorem rr_d : retR ρ (.dat d) = .dat d := rfl
theorem rr_n : retR ρ (.new ds) = .new ds := rfl
theorem rr_v : retR ρ (.var n) = match ρ[n]? with | some (some (.own ds)) => R.new ds | some (some o) => .dat o.frz | _ => .var n := rfl
theorem in_1 {neg : Bool} : dIn neg a d P = match seqOfD d with | some ds => flatD a = true ∧ ds.all flatD = true ∧ P (.dat (.bl (if neg then !inD a ds else inD a ds))) | none => False := rfl
theorem ix_1 : dIx a (.int i) P = match seqOfD a with | some ds => ∃ d, atI ds i = some d ∧ P (.dat d) | none => False := by
  unfold dIx
  cases seqOfD a <;> rfl
theorem dt_1 {ds : List D} : dTupD [.dct ks ds] P = P (.dat (.tup (ks.map dOf))) := rfl
theorem iv_d : (R.dat d).isVar = false := rfl
theorem iv_n : (R.new ds).isVar = false := rfl
theorem iv_v : (R.var n).isVar = true := rfl
theorem nr_d : noR (.dat d) = noL d := rfl
theorem nr_n : noR (.new ds) = noLA ds := rfl
theorem lt_n : isLT .non = false := rfl
theorem pl_n : plainD .non = true := rfl
theorem tyB_n : isT5 .B .non = false := rfl
theorem tyI_n : isT5 .I .non = false := rfl
theorem tyS_n : isT5 .S .non = false := rfl
theorem tyL_n : isT5 .L .non = false := rfl
theorem tyT_n : isT5 .T .non = false := rfl
theorem lt_b : isLT (.bl b) = false := rfl
theorem pl_b : plainD (.bl b) = true := rfl
theorem tyB_b : isT5 .B (.bl b) = true := rfl
theorem tyI_b : isT5 .I (.bl b) = true := rfl
theorem tyS_b : isT5 .S (.bl b) = false := rfl
theorem tyL_b : isT5 .L (.bl b) = false := rfl
theorem tyT_b : isT5 .T (.bl b) = false := rfl
theorem lt_i : isLT (.int i) = false := rfl
theorem pl_i : plainD (.int i) = true := rfl
theorem tyB_i : isT5 .B (.int i) = false := rfl
theorem tyI_i : isT5 .I (.int i) = true := rfl
theorem tyS_i : isT5 .S (.int i) = false := rfl
theorem tyL_i : isT5 .L (.int i) = false := rfl
theorem tyT_i : isT5 .T (.int i) = false := rfl
theorem lt_s : isLT (.str x) = false := rfl
theorem pl_s : plainD (.str x) = true := rfl
theorem tyB_s : isT5 .B (.str x) = false := rfl
theorem tyI_s : isT5 .I (.str x) = false := rfl
theorem tyS_s : isT5 .S (.str x) = true := rfl
theorem tyL_s : isT5 .L (.str x) = false := rfl
theorem tyT_s : isT5 .T (.str x) = false := rfl
theorem lt_l : isLT (.lst ds) = true := rfl
theorem pl_l : plainD (.lst ds) = true := rfl
theorem tyB_l : isT5 .B (.lst ds) = false := rfl
theorem tyI_l : isT5 .I (.lst ds) = false := rfl
theorem tyS_l : isT5 .S (.lst ds) = false := rfl
theorem tyL_l : isT5 .L (.lst ds) = true := rfl
theorem tyT_l : isT5 .T (.lst ds) = false := rfl
theorem lt_t : isLT (.tup ds) = true := rfl
theorem pl_t : plainD (.tup ds) = true := rfl
theorem tyB_t : isT5 .B (.tup ds) = false := rfl
theorem tyI_t : isT5 .I (.tup ds) = false := rfl
theorem tyS_t : isT5 .S (.tup ds) = false := rfl
theorem tyL_t : isT5 .L (.tup ds) = false := rfl
theorem tyT_t : isT5 .T (.tup ds) = true := rfl
theorem lt_x : isLT (.tpx ds) = true := rfl
theorem pl_x : plainD (.tpx ds) = true := rfl
theorem tyB_x : isT5 .B (.tpx ds) = false := rfl
theorem tyI_x : isT5 .I (.tpx ds) = false := rfl
theorem tyS_x : isT5 .S (.tpx ds) = false := rfl
theorem tyL_x : isT5 .L (.tpx ds) = false := rfl
theorem tyT_x : isT5 .T (.tpx ds) = true := rfl
theorem lt_d : isLT (.dct ks ds) = false := rfl
theorem pl_d : plainD (.dct ks ds) = true := rfl
theorem tyB_d : isT5 .B (.dct ks ds) = false := rfl
theorem tyI_d : isT5 .I (.dct ks ds) = false := rfl
theorem tyS_d : isT5 .S (.dct ks ds) = false := rfl
theorem tyL_d : isT5 .L (.dct ks ds) = false := rfl
theorem tyT_d : isT5 .T (.dct ks ds) = false := rfl
theorem d0_1 {g : Int → Int → D} {j : Int} : dI0 g (.int i) (.int j) P = P (.dat (g i j)) := rfl
theorem dI_1 {C : Int → Int → Prop} {g : Int → Int → D} {j : Int} : dI C g (.int i) (.int j) P = (C i j ∧ P (.dat (g i j))) := rfl
theorem ad_i {j : Int} : dAdd (.int i) (.int j) P = P (.dat (.int (i + j))) := rfl
theorem ad_t {es : List D} : dAdd (.tup ds) (.tup es) P = (ds.length + es.length ≤ sizeLine ∧ P (.dat (.tup (ds ++ es)))) := rfl
theorem ad_l {es : List D} : dAdd (.lst ds) (.lst es) P = (ds.length + es.length ≤ sizeLine ∧ P (.new (ds ++ es))) := rfl
theorem ng_1 : dNeg (.int i) P = P (.dat (.int (-i))) := rfl
theorem mv_d : mvE ρ (.dat d) = ρ := rfl
theorem mv_n : mvE ρ (.new ds) = ρ := rfl
theorem mv_v : mvE ρ (.var n) = ρ.set n (some (.dat (vl ρ (.var n)))) := rfl
theorem nn_n {g : Bool} : dIsN g .non .non P = P (.dat (.bl (!g))) := rfl
theorem nn_b {g : Bool} : dIsN g (.bl b) .non P = P (.dat (.bl g)) := rfl
theorem nn_i {g : Bool} : dIsN g (.int i) .non P = P (.dat (.bl g)) := rfl
theorem nn_s {g : Bool} : dIsN g (.str x) .non P = P (.dat (.bl g)) := rfl
theorem nn_l {g : Bool} : dIsN g (.lst ds) .non P = P (.dat (.bl g)) := rfl
theorem nn_t {g : Bool} : dIsN g (.tup ds) .non P = P (.dat (.bl g)) := rfl
theorem nn_x {g : Bool} : dIsN g (.tpx ds) .non P = P (.dat (.bl g)) := rfl
theorem nn_d {g : Bool} : dIsN g (.dct ks ds) .non P = P (.dat (.bl g)) := rfl
theorem it_1 : dInt [.int i] P = P (.dat (.int i)) := rfl
theorem isB_1 {c : Bool} : dIsB (.bl b) (.bl c) P = P (.dat (.bl (decide (b = c)))) := rfl
end
end Z

set_option Elab.async false
set_option linter.all false
set_option maxRecDepth 100000
namespace Z
open PySem L2
/-! ## x += e of ints -/
def dAugI (i : Nat) (g : Int → Int → Int) (te : DT) : DST := fun D ρ => ∃ a : Int, ρ[i]? = some (some (.dat (.int a))) ∧ te ρ fun r ρ1 => ∃ b : Int, r = .dat (.int b) ∧ D.nx (ρ1.set i (some (.dat (.int (g a b)))))
section
variable {X : Cx} {B : Bs} {F H : Hp} {ρ : En} {σ : L2.St} {e o : Expr} {tE : TE} {te : DT} {pos : Pos} {i : Nat}
theorem ds_augI {x : Str} {op : Operator} {g : Int → Int → Int} {pos' : Pos} (hN : X.N.Nodup) (hi : X.N[i]? = some x) (hx : Loc X.env.scope x) (ho : PIp X op (ipI g)) (h : DE X B e tE te) (hf : X.fn x = true ∨ X.env.scope.names.lookup x = some .local := by first | exact .inl rfl | exact .inr rfl | assumption) :
    DS X B (.AugAssign (.Name x pos') op e pos) (tAug i tE (ipI g)) (dAugI i g te) := by
  refine ⟨ps_aug hN hi hx h.pe ho hf, fun F ρ σ H D E l ⟨a, ea, w⟩ k => ?_⟩
  obtain ⟨v, es, hv⟩ := l.var i _ ea
  cases hv
  refine ⟨_, es, h.sim F ρ σ H _ _ l w fun r v F' ρ' H' l' s kp rv p => ?_⟩
  obtain ⟨b, rfl, p⟩ := p
  cases rv
  exact ⟨a, b, rfl, rfl, k.nx F' _ _ H' (l'.set (o := .dat (.int (g a b))) (.int _) fun z => by cases z) s p⟩
/-! ## xs.remove(n) of ints -/
def dRem (i : Nat) (te : DT) : DT := fun ρ P => isOwnL ρ i ∧ te ρ fun r ρ1 => ownAt ρ1 i fun ds => ∃ (ns : List Int) (n : Int) (j : Nat), ds = ns.map D.int ∧ r = .dat (.int n) ∧ ns[j]? = some n ∧ (∀ m : Nat, m < j → ns[m]? ≠ some n) ∧ P (.dat .non) (ρ1.set i (some (.own ((ns.eraseIdx j).map D.int))))
theorem de_remove {apos cpos : Pos} (ho : PE X o (tVar i)) (h : DE X B e tE te) (hK : X.K = B.K := by rfl) (hbase : attributeBase o "remove" X.env (eval o X.env) = eval o X.env := by rfl)
    (hfew : ((backTo cpos (starEach [e] X.env)).all (fun x => !x.1) && (backToKw cpos (keywordEach [] X.env)).all (fun x => x.1.isSome) && decide ([e].length + ([] : List Keyword).length + (if ([] : List Keyword).isEmpty then 0 else 1) < 30)) = true := by rfl)
    (hline : (apos.endLine == cpos.line) = true := by rfl) (hs : starEach [e] X.env = (false, eval e X.env) :: starEach [] X.env := by rfl) (hpl : (backTo cpos (starEach [] X.env)).any (·.1) = false := by rfl) :
    DE X B (.Call (.Attribute o "remove" apos) [e] [] cpos) (tBM B.K "list" rRemI (tVar i) (tCons tE tNil)) (dRem i te) := by
  refine ⟨by rw [← hK]; exact pe_bm PySem.F.plainAttrs_list PySem.F.slot_list_remove PySem.F.type_list_remove mt_remove ho (pa_cons h.pe pa_nil hs) hbase hfew hline hs hpl, fun F ρ σ H P Q l w k => ?_⟩
  obtain ⟨p, es, ty⟩ := own_ty l w.1
  refine ⟨_, es, ty, h.sim F ρ σ H _ _ l w.2 fun r v F' ρ' H' l' s kp rv q => ?_⟩
  obtain ⟨ds, e1, ns, n, j, rfl, rfl, hj, hno, q⟩ := ownAt_of q
  obtain ⟨p', vs, es', h1, h2, m⟩ := l'.mutL e1
  rw [es] at es'
  cases es'
  cases rv
  obtain rfl := h2.ints
  exact ⟨p, ns, n, j, rfl, rfl, h1, hj, hno, k (.dat .non) .non F' _ _ (m _ _ (RvA.ofInts _)) s (kp.trans (Kp.set e1)) .non q⟩
end
/-! ## perm(n, k) of the module math -/
def rPerm : List V → Hp → VK → Prop := fun xs H Q => ∃ a b : Int, xs = [.int a, .int b] ∧ 0 ≤ a ∧ 0 ≤ b ∧ a < 2 ^ 64 ∧ b ≤ 20000 ∧ Q (.int (PySem.W.mcPerm a b)) H
theorem call_perm {X : Cx} : CallR X (.builtin "math.perm") rPerm := by
  intro pins s σ H xs us Q inv rel want
  obtain ⟨a, b, rfl, h1, h2, h3, h4, q⟩ := want
  have two := Vals.int2 rel
  obtain ⟨t1, t2, rfl⟩ := two
  exact PySem.W.mc_perm h1 h2 h3 h4 fun _ => ⟨.int _, H, inv.tok _, ⟨_, rfl⟩, q⟩
def dPerm : List D → (R → Prop) → Prop
  | [.int a, .int b], P => 0 ≤ a ∧ 0 ≤ b ∧ a < 2 ^ 64 ∧ b ≤ 20000 ∧ P (.dat (.int (PySem.W.mcPerm a b)))
  | _, _ => False
theorem pm_1 {a b : Int} {P : R → Prop} : dPerm [.int a, .int b] P = (0 ≤ a ∧ 0 ≤ b ∧ a < 2 ^ 64 ∧ b ≤ 20000 ∧ P (.dat (.int (PySem.W.mcPerm a b)))) := rfl
theorem cad_perm {B : Bs} : CaD B rPerm dPerm := by
  intro F ρ σ H xs ds P Q l a w k
  match ds, w with
  | [.int x, .int y], ⟨h1, h2, h3, h4, w⟩ =>
    cases a with
    | cons a1 a2 =>
      cases a2 with
      | cons a2 a3 =>
        cases a3
        cases a1
        cases a2
        exact ⟨x, y, rfl, h1, h2, h3, h4, k (.dat _) _ F H l (Same.refl _) (.int _) w⟩
section
variable {X : Cx} {B : Bs} {e : Expr} {es : List Expr} {tA : TA} {u : DTA} {x : Str} {p pos : Pos} {id : String} {r : List V → Hp → VK → Prop} {d : List D → (R → Prop) → Prop}
/-- f(..), f a name of the module for a built-in function -/
theorem de_callBf (hc : CallR X (.builtin id) r) (hd : CaD B r d) (hg : Gl X x) (hm : X.mg x = some (.builtin id)) (ha : DA X B (e :: es) tA u) (hdb : (x == ("__debug__" : Str)) = false := by decide)
    (he : starEach (e :: es) X.env = (false, eval e X.env) :: starEach es X.env := by rfl) (hpl : (backTo pos (starEach es X.env)).any (·.1) = false := by rfl) : DE X B (.Call (.Name x p) (e :: es) [] pos) (tCB r tA) (dCa d u) := by
  refine ⟨pe_callBfun hc hg hm ha.pe hdb he hpl, fun F ρ σ H P Q l w k => ha.sim F ρ σ H _ _ l w fun rs vs F' ρ' H' l' s kp al q => ?_⟩
  exact cad_run hd l' al q fun r v F2 H2 l2 s2 rv p => k r v F2 ρ' H2 l2 (s.trans s2) kp rv p
end
/-! ## an error of two fields -/
section
variable {P : Program} {w : World} {K : PySem.W.Frag} {mg : Str → Option Value} {base : Heap} {N ps : List Str} {qual : Str} {st : Stmt} {f C : Addr} {fd : FuncData}
theorem ok_ex2 {f1 f2 : Str} (F : Fun K "__init__" qual st f fd) (S : FnScope N ps (defScope st)) (ox : OexC K C) (n1 : PySem.W.findIn K (.ref C) f1 = some none) (n2 : PySem.W.findIn K (.ref C) f2 = some none) (hl : ps.length = 3)
    (hb : ∀ (cdv : Value) (A : Around) (outer : List PySem.Env) (s : Shared) (H : Hp) (E : XK), PSs (cxOf CX0 P w K mg base N qual (defScope st) f cdv A outer s H E).nox (defBody st) (tSeq (tOst K f1 (tVar 0) (tVar 1)) (tOst K f2 (tVar 0) (tVar 2)))) : FnOk P w K mg base CX0 1 f fd ps (spEx C [f1, f2]) := by
  refine F.ok S (fun vs H Q E h => ?_) (fun cdv A outer s H vs Q E hr h => ⟨_, hb cdv A outer s H E, ?_⟩)
  · obtain ⟨a, xs, rfl, e, _⟩ := h
    rw [hl, List.length_cons, e]
    rfl
  · obtain ⟨a, xs, rfl, e, ha, k⟩ := h
    match xs, e with
    | [x, y], _ =>
      refine ⟨x, start0 rfl, .ref a, start0 rfl, a, C, rfl, ox, n1, .inl ⟨ha, fun d hd nd => ?_⟩⟩
      refine ⟨y, start0 rfl, .ref a, start0 rfl, a, C, rfl, ox, n2, .inr ⟨d, [(f1, x)], upd_same, ?_, (by show 1 ≤ 900; decide), ?_⟩⟩
      · rw [upd_ne nd]
        exact upd_same
      · refine k d _ hd nd ?_ upd_same fun b na nb => ?_
        · rw [upd_ne (Ne.symm nd)]
          exact upd_same
        · rw [upd_ne nb, upd_ne na, upd_ne nb]
end
/-! ## raise C(), C an error without fields -/
structure Bare0 (K : PySem.W.Frag) (mg : Str → Option Value) (x : Str) (C : Addr) : Prop where
  ex : ∃ (bm : List Value) (b n i : String), ExcBaseFacts b n i bm ∧ PySem.W.excIn K C bm n = true
  g : mg x = some (.ref C)
  kp : PySem.W.keepIn K (.ref C) = true
  sb : PySem.W.subIn K (.ref C) (.type "BaseException") = some true
  ty : PySem.W.typeIn K (.ref C) = some (.type "type")
section
variable {X : Cx} {x : Str} {C : Addr} {p pos pos' : Pos}
theorem pmk_bare0 (Y : Bare0 X.K X.mg x C) (hg : Gl X x) (hdb : (x == ("__debug__" : Str)) = false := by decide) : PMk X (.Call (.Name x p) [] [] pos) (fun _ H Q => Q (.ref C) none H) := by
  intro pins s σ H Q I want
  obtain ⟨bm, b, n, i, F, q⟩ := Y.ex
  refine wpAny_Call_Name_kw (ld_glob I hg Y.g ?_ hdb)
  refine PySem.W.callWith_K0 I.kIn Y.kp ?_
  have ob := exc_obj I.kIn q
  obtain ⟨w1, w2, w3, w4, w5, w6, w7, w8, w9, w10, w11, w12, w13, w14, w15, w16, w17, a1, a2, a3, a4⟩ := ob
  exact wpAny_call_exc_subT F a4 a1 a2 a3 (fun h' e made => mk_of I made (raises_own Y.sb Y.ty) want (I.hok.gone made.new)) (Nat.zero_le _)
def dRaise0 (C : Addr) (exE : EXE) : DST := fun _ ρ => exE C [] ρ
theorem ds_raise0 {B : Bs} {W' : WX} {exE : EXE} (Y : Bare0 X.K X.mg x C) (tk : Takes X W') (hc : X.calm = true) (hg : Gl X x) (hl : LXT B exE W') (hdb : (x == ("__debug__" : Str)) = false := by decide) :
    DS X B (.Raise (some (.Call (.Name x p) [] [] pos)) none pos') (fun _ σ H => W' (.ref C) none σ H) (dRaise0 C exE) :=
  ⟨ps_raise hc tk (pmk_bare0 Y hg hdb), fun F ρ σ H D E l w k => hl.2 C F ρ σ H l w⟩
end
end Z

set_option Elab.async false
set_option linter.all false
set_option maxRecDepth 100000
set_option maxHeartbeats 1000000
/-! own rules: if and for within a generator def -/
namespace L2
open PySem PySem.Spec PyProof.Rows GenW
section
variable {X : Cx}
def tGIf (c : TT) (t u : TGn) : TGn := fun D ys σ H => c σ H fun b H1 => if b = true then t D ys σ H1 else u D ys σ H1
theorem gs_if {c : Expr} {a b : List Stmt} {tc : TT} {t u : TGn} {pos : Pos} (hc : PT X c tc) (ha : GSs X a t) (hb : GSs X b u) : GS X (.If c a b pos) (tGIf tc t u) := by
  refine ⟨fun A S ip R n ys s₀ cd fs K J gd lv s σ H D g hn k hI ht => ?_⟩
  rw [exec_If]
  refine seg_bind_wrap (wpAny_standAt ?_)
  refine seg_bind_wrap ?_
  rw [g.over]
  obtain ⟨acc, cc, r, I⟩ := hI
  refine wpAny_mono (hc.run _ s σ H _ I ht) (fun q s' hq => ?_) fun x s' hx => k.exc n s₀ x s' hx
  obtain ⟨H2, I2, q2⟩ := hq
  cases q with
  | true => exact ha.run A S ip R n ys s₀ cd fs K J gd lv s' σ H2 D g hn k ⟨acc, cc, r, I2⟩ (by simpa using q2)
  | false => exact hb.run A S ip R n ys s₀ cd fs K J gd lv s' σ H2 D g hn k ⟨acc, cc, r, I2⟩ (by simpa using q2)
def tGFor (wi : TI) (g : TG) (tb : TGn) : TGn := fun D ys σ H => wi σ H fun J H1 => ∃ W : Nat → Nat → List V → St → Hp → Prop, (∃ m, W 0 m ys σ H1) ∧ ∀ i m ys σ H, W i m ys σ H →
  (J.stop i H ∧ D.nx ys σ H) ∨ (J.go i H ∧ ∃ N : List V → St → Hp → Prop, (∀ ys' σ' H', N ys' σ' H' → ∃ m', m' < m ∧ W (i + 1) m' ys' σ' H') ∧ ∀ x H', J.yld i H x H' → g x σ H' fun σ2 H2 => tb { D with nx := N, ct := N, bk := D.nx } ys σ2 H2)
theorem gs_for {tg iter : Expr} {body : List Stmt} {wi : TI} {g : TG} {tb : TGn} {pos : Pos} (hp : PassesOwn (model X.prog X.w) X.A X.env X.xe) (hc : X.calm = true) (hi : PI X tg iter wi) (hg : PG X tg g) (hb : GSs X body tb)
    (hs : ∀ x, foldedSetIterable iter X.env x = pure x := by intro _; rfl) : GS X (.For tg iter body [] pos) (tGFor wi g tb) := by
  refine ⟨fun A S ip R n ys s₀ cd fs K J gd lv s σ H D gc hn k hI ht => ?_⟩
  rw [exec_For]
  refine seg_bind_wrap (wpAny_standAt ?_)
  refine seg_bind_wrap ?_
  rw [gc.over]
  obtain ⟨acc, cc, r, I⟩ := hI
  refine wpAny_mono (hi.run _ s σ H _ I ht) (fun v s1 h1 => ?_) fun x s' hx => k.exc n s₀ x s' hx
  rw [hs]
  refine seg_bind_wrap (wpAny_pure ?_)
  refine seg_bind_wrap (wpAny_standAt ?_)
  refine seg_bind_wrap (wpAny_holding ?_)
  rw [gc.over]
  refine wpAny_mono h1 (fun itv s2 h2 => ?_) fun x s' hx => k.exc n s₀ x s' hx
  obtain ⟨it, fp, tn, JT, H2, e, I2, T, st2, f2, W, ⟨m0, w0⟩, turn⟩ := h2
  subst e
  refine seg_call fun p => ?_
  have gl := fun (kk : Result → Sem PySem.Fin) => gc_loop (k := kk) (c' := .forLoop tg (.ref it) body [] X.env) (l := lv []) (kp := []) (p := p) gc rfl rfl
  have stat : ∀ {H' : Hp} {sp : List (Addr × Obj)}, (∀ q ∈ sp, q.1 = S) → (∀ b ∈ fp, H' b = none) → ∀ b ∈ fp, FpOk X (sp ++ ip) H' b := fun {H' sp} hS hn b hb => by
    obtain ⟨_, q1, q2, q3, q4, q5⟩ := f2 b hb
    refine ⟨hn b hb, q1, q2, q3, q4, fun z hz => ?_⟩
    rcases List.mem_append.mp hz with y | y
    · exact q5 z (List.mem_append_left _ y)
    · rcases List.mem_append.mp y with y | y
      · rw [hS z y]
        exact q5 (S, lstObj acc cc) (List.mem_append_right _ List.mem_cons_self)
      · exact q5 z (List.mem_append_right _ (List.mem_cons_of_mem _ y))
  have fS : ∀ b ∈ fp, b ≠ S := fun b hb z => (f2 b hb).2.2.2.2.2 (S, lstObj acc cc) (List.mem_append_right _ List.mem_cons_self) z.symm
  have loop : ∀ (m n i : Nat) (ys : List V) (s₀ s : Shared) (σ : St) (H : Hp), n + ys.length = sizeLine → W i m ys σ H → GI X S ip ys σ H s → tn i s.heap → (∀ b ∈ fp, H b = none) →
      Seg (model X.prog X.w) A R (GY X S) n s₀ (.forLoop tg (.ref it) body [] X.env) ((model X.prog X.w).den (.forLoop tg (.ref it) body [] X.env))
        (.ret (fun r => ((match r with | .ok f => (.pure f : Sem Flow) | .error e => .raise e).onRaise (cameBack X.env)).wrap K J gd lv) none (gd false) (lv []) cd p [] :: fs) s := by
    intro m
    induction m using Nat.strongRecOn with
    | ind m ih =>
      intro n i ys s₀ s3 σ3 H3 hn w3 hI st3 fr3
      have ee : ∀ (n : Nat) (s₀ : Shared) (x : Value) (s' : Shared), X.xe x s' → Seg (model X.prog X.w) A R (GY X S) n s₀ (.forLoop tg (.ref it) body [] X.env)
          ((do noteFrame x X.env; theTreesLotGoes x : Sem Unit).bind (fun _ => (.raise x : Sem PySem.Fin)))
          (.ret (fun r => ((match r with | .ok f => (.pure f : Sem Flow) | .error e => .raise e).onRaise (cameBack X.env)).wrap K J gd lv) none (gd false) (lv []) cd p [] :: fs) s' := fun n s₀ x s' hx => by
        rw [Sem.bind_eq_wrap]
        refine seg_wrap ?_
        rw [(gl _).over]
        refine wpAny_bind (wpAny_mono (hp x s' hx) (fun _ s'' hcb => wpAny_theTreesLotGoes ?_) fun y s'' hcb => ?_)
        · exact seg_leaf (.error x) (seg_cameBack gc k hcb)
        · exact seg_leaf (.error y) (seg_cameBack gc k hcb)
      show Seg _ A R _ n s₀ _ ((forTurn tg (.ref it) body [] X.env).onRaise (fun x => do noteFrame x X.env; theTreesLotGoes x)) _ s3
      rw [Sem.onRaise_eq_wrap]
      unfold forTurn
      refine seg_bind_wrap (wpAny_standAt ?_)
      refine seg_bind_wrap ?_
      rw [(gl _).over]
      obtain ⟨acc3, cc3, r3, I3⟩ := hI
      have one : ∀ q ∈ [(S, lstObj acc3 cc3)], q.1 = S := fun q hq => by rw [List.mem_singleton.mp hq]
      rcases turn i m ys σ3 H3 w3 with ⟨stop, qn⟩ | ⟨go, N, hN, step⟩
      · refine wpAny_onRaise (wpAny_mono (T.done X rfl rfl rfl hc i _ s3 σ3 H3 X.xe I3 (stat (sp := [(S, lstObj acc3 cc3)]) one fr3) st3 stop) (fun r s4 hr => ?_) fun x s' hx => wpAny_standAt (ee n s₀ x s' hx))
        obtain ⟨rfl, I4⟩ := hr
        refine seg_again rfl ?_
        refine seg_leaf (.ok .next) (k.ok n ys s₀ s4 .next hn ⟨σ3, H3, ⟨acc3, cc3, r3, I4⟩, qn⟩)
      · refine wpAny_onRaise (wpAny_mono (T.item X rfl rfl rfl hc i _ s3 σ3 H3 X.xe I3 (stat (sp := [(S, lstObj acc3 cc3)]) one fr3) st3 go) (fun r s4 hr => ?_) fun x s' hx => wpAny_standAt (ee n s₀ x s' hx))
        obtain ⟨u, rfl, h4⟩ := hr
        refine seg_bind_wrap ?_
        rw [(gl _).over]
        refine wpAny_mono h4 (fun _ s5 h5 => ?_) fun x s' hx => ee n s₀ x s' hx
        obtain ⟨x, H5, I5, r5, y5, st5, fr5⟩ := h5
        have I5' := I5.pinned (stat (sp := [(S, lstObj acc3 cc3)]) one fr5) (T.obj _ _ st5)
        refine seg_bind_wrap ?_
        rw [(gl _).over]
        refine wpAny_mono (hg.run _ s5 σ3 H5 x u _ I5' r5 (step x H5 y5)) (fun _ s6 h6 => ?_) fun x s' hx => ee n s₀ x s' hx
        obtain ⟨σ6, H6, I6, q6⟩ := h6
        have ipS : ∀ q ∈ ip ++ pinsAt fp s5.heap, q.1 ≠ S := fun q hq => by
          rcases List.mem_append.mp hq with y | y
          · exact gc.ip q y
          · exact fS _ (of_pinsAt y).1
        have g5 : GC X S (ip ++ pinsAt fp s5.heap) A (.forLoop tg (.ref it) body [] X.env) (.ret (fun r => ((match r with | .ok f => (.pure f : Sem Flow) | .error e => .raise e).onRaise (cameBack X.env)).wrap K J gd lv) none (gd false) (lv []) cd p [] :: fs) id :=
          ⟨gc.pn, ipS, gc.apart, (gl _).over, (gl _).split, (gl _).guard, rfl⟩
        rw [Sem.bind_eq_wrap', Sem.wrap_wrap]
        refine hb.run A S (ip ++ pinsAt fp s5.heap) R n ys s₀ _ _ _ _ id id s6 σ6 H6 { D with nx := N, ct := N, bk := D.nx } g5 hn ⟨fun n' ys' s₀' s7 f hn' hs => ?_, fun n' s₀' x s7 hx => ee n' s₀' x s7 hx⟩ ⟨acc3, cc3, r3, I6⟩ q6
        have unp : ∀ {σ7 : St} {H7 : Hp}, GI X S (ip ++ pinsAt fp s5.heap) ys' σ7 H7 s7 → GI X S ip ys' σ7 H7 s7 := fun {σ7 H7} hG => by
          obtain ⟨a7, c7, r7, I7⟩ := hG
          refine ⟨a7, c7, r7, ?_⟩
          have I7' : Inv X (((S, lstObj a7 c7) :: ip) ++ pinsAt fp s5.heap) σ7 H7 s7 := I7
          exact I7'.unpinned
        have again : ∀ {σ7 : St} {H7 : Hp}, GI X S (ip ++ pinsAt fp s5.heap) ys' σ7 H7 s7 → N ys' σ7 H7 → Seg (model X.prog X.w) A R (GY X S) n' s₀' (.forLoop tg (.ref it) body [] X.env) (.pure (.again (.forLoop tg (.ref it) body [] X.env)))
            (.ret (fun r => ((match r with | .ok f => (.pure f : Sem Flow) | .error e => .raise e).onRaise (cameBack X.env)).wrap K J gd lv) none (gd false) (lv []) cd p [] :: fs) s7 := fun {σ7 H7} hG n7 => by
          obtain ⟨m', hm, w7⟩ := hN ys' σ7 H7 n7
          have hG' := unp hG
          obtain ⟨a7, c7, r7, I7⟩ := hG
          have at7 : ∀ b ∈ fp, ∀ o, s5.heap.get? b = some o → s7.heap.get? b = some o ∧ H7 b = none := fun b hb o e => by
            have := I7.pin (b, o) (List.mem_append_right _ (List.mem_cons_of_mem _ (List.mem_append_right _ (mem_pinsAt hb e))))
            exact ⟨this.1, this.2.1⟩
          refine seg_again rfl (ih m' hm n' (i + 1) ys' s₀' s7 σ7 H7 hn' w7 hG' (T.keep _ _ _ st5 fun b hb o e => (at7 b hb o e).1) fun b hb => ?_)
          obtain ⟨o, e, _⟩ := T.obj _ _ st5 b hb
          exact (at7 b hb o e).2
        cases f with
        | next => obtain ⟨σ7, H7, I7, n7⟩ := hs; exact again I7 n7
        | cont => obtain ⟨σ7, H7, I7, n7⟩ := hs; exact again I7 n7
        | brk =>
          obtain ⟨σ7, H7, I7, q7⟩ := hs
          exact seg_leaf (.ok .next) (k.ok n' ys' s₀' s7 .next hn' ⟨σ7, H7, unp I7, q7⟩)
        | ret v =>
          obtain ⟨x7, σ7, H7, I7, rv7, q7⟩ := hs
          exact seg_leaf (.ok (.ret v)) (k.ok n' ys' s₀' s7 (.ret v) hn' ⟨x7, σ7, H7, unp I7, rv7, q7⟩)
  exact loop m0 n 0 ys s₀ s2 σ H2 hn w0 ⟨acc, cc, r, I2⟩ st2 fun b hb => (f2 b hb).1
end
end L2

set_option Elab.async false
set_option linter.all false
set_option maxRecDepth 100000
namespace Z
open PySem L2
/-! ## generator defs by values -/
structure DGE where
  nx : List D → En → Prop
  rt : List D → R → Prop
  bk : List D → En → Prop := fun _ _ => False
  ct : List D → En → Prop := fun _ _ => False
abbrev DTG := DGE → List D → En → Prop
structure LkG (B : Bs) (F : Hp) (E : DGE) (D : GEnds) : Prop where
  nx : ∀ F' ρ' σ' H' ys ds, Rel B F' ρ' σ' H' → Same F F' → RvA B.K B.hd F' ys ds → E.nx ds ρ' → D.nx ys σ' H'
  rt : ∀ r v F' H' ys ds, After B F' H' → RvC B F' H' v r → RvA B.K B.hd F' ys ds → E.rt ds r → D.rt ys v H'
  bk : ∀ F' ρ' σ' H' ys ds, Rel B F' ρ' σ' H' → Same F F' → RvA B.K B.hd F' ys ds → E.bk ds ρ' → D.bk ys σ' H'
  ct : ∀ F' ρ' σ' H' ys ds, Rel B F' ρ' σ' H' → Same F F' → RvA B.K B.hd F' ys ds → E.ct ds ρ' → D.ct ys σ' H'
theorem LkG.mono {B : Bs} {F F' : Hp} {E : DGE} {D : GEnds} (h : LkG B F E D) (s : Same F F') : LkG B F' E D :=
  ⟨fun a b c d x y l s2 => h.nx a b c d x y l (s.trans s2), h.rt, fun a b c d x y l s2 => h.bk a b c d x y l (s.trans s2), fun a b c d x y l s2 => h.ct a b c d x y l (s.trans s2)⟩
def SimG (B : Bs) (tS : TGn) (t : DTG) : Prop := ∀ (F : Hp) (ρ : En) (σ : L2.St) (H : Hp) (ys : List V) (ds : List D) (E : DGE) (D : GEnds), Rel B F ρ σ H → RvA B.K B.hd F ys ds → t E ds ρ → LkG B F E D → tS D ys σ H
structure DGS (X : Cx) (B : Bs) (st : Stmt) (tS : TGn) (t : DTG) : Prop where
  gs : GS X st tS
  sim : SimG B tS t
structure DGSs (X : Cx) (B : Bs) (sts : List Stmt) (tS : TGn) (t : DTG) : Prop where
  gs : GSs X sts tS
  sim : SimG B tS t
def dgPlain (t : DST) : DTG := fun E ds ρ => t { nx := E.nx ds, rt := fun _ => False, bk := E.bk ds, ct := E.ct ds } ρ
def dgNext : DTG := fun E ds ρ => E.nx ds ρ
def dgSq (t u : DTG) : DTG := fun E ds ρ => t { E with nx := fun ds' ρ' => u E ds' ρ' } ds ρ
def dgYield (te : DT) : DTG := fun E ds ρ => ds.length < sizeLine ∧ te ρ fun r ρ1 => E.nx (ds ++ [vl ρ1 r]) (mvE ρ1 r)
def dgIf (c : DBT) (t u : DTG) : DTG := fun E ds ρ => c ρ fun b ρ1 => if b = true then t E ds ρ1 else u E ds ρ1
def dgForL (g : DGT) (tb : DTG) (E : DGE) : List D → List D → En → Prop
  | [], ds, ρ => E.nx ds ρ
  | x :: xs, ds, ρ => g x ρ fun ρ1 => tb { E with nx := fun ds' ρ' => dgForL g tb E xs ds' ρ', ct := fun ds' ρ' => dgForL g tb E xs ds' ρ', bk := E.nx } ds ρ1
def dgFor (ti : DIT) (g : DGT) (tb : DTG) : DTG := fun E ds ρ => ti ρ fun xs ρ1 => dgForL g tb E xs ds ρ1
def dgWhile (c : DBT) (tb : DTG) : DTG := fun E ds ρ => ∃ W : Nat → List D → En → Prop, (∃ m, W m ds ρ) ∧ ∀ m ds ρ, W m ds ρ → c ρ fun b ρ1 => if b = true then tb { E with nx := fun ds2 ρ2 => ∃ m', m' < m ∧ W m' ds2 ρ2, ct := fun ds2 ρ2 => ∃ m', m' < m ∧ W m' ds2 ρ2, bk := E.nx } ds ρ1 else E.nx ds ρ1
section
variable {X : Cx} {B : Bs} {st : Stmt} {sts : List Stmt} {tS uS : TGn} {t u : DTG} {tP : TS} {tp : DST} {pos : Pos}
theorem sim_plain (s : SimS B tP tp) : SimG B (tPlain tP) (dgPlain tp) := fun F ρ σ H ys ds E D l a w k =>
  s F ρ σ H _ _ l w ⟨fun F' ρ' σ' H' l' s' q => k.nx F' ρ' σ' H' ys ds l' s' (a.mono s') q, fun r v F' H' af rv q => q.elim, fun F' ρ' σ' H' l' s' q => k.bk F' ρ' σ' H' ys ds l' s' (a.mono s') q, fun F' ρ' σ' H' l' s' q => k.ct F' ρ' σ' H' ys ds l' s' (a.mono s') q⟩
theorem dgs_plain (h : DS X B st tP tp) : DGS X B st (tPlain tP) (dgPlain tp) := ⟨gs_ps h.ps, sim_plain h.sim⟩
theorem dgss_nil : DGSs X B [] tG0 dgNext := ⟨gss_nil, fun F ρ σ H ys ds E D l a w k => k.nx F ρ σ H ys ds l (Same.refl _) a w⟩
theorem dgss_cons (h : DGS X B st tS t) (g : DGSs X B sts uS u) : DGSs X B (st :: sts) (tGThen tS uS) (dgSq t u) :=
  ⟨gss_cons h.gs g.gs, fun F ρ σ H ys ds E D l a w k => h.sim F ρ σ H ys ds _ _ l a w ⟨fun F' ρ' σ' H' ys' ds' l' s' a' q => g.sim F' ρ' σ' H' ys' ds' _ _ l' a' q (k.mono s'), k.rt, k.bk, k.ct⟩⟩
theorem dgss_one (h : DGS X B st tS t) : DGSs X B [st] (tGThen tS tG0) (dgSq t dgNext) := dgss_cons h dgss_nil
theorem dgs_yield {e : Expr} {yp : Pos} {tE : TE} {te : DT} (h : DE X B e tE te) (hco : X.env.scope.isCoroutine = false := by rfl) (hi : interactive X.env = false := by rfl) : DGS X B (.Expr (.Yield (some e) yp) pos) (tGYield tE) (dgYield te) := by
  refine ⟨gs_yield h.pe hco hi, fun F ρ σ H ys ds E D l a w k => ⟨by rw [a.len]; exact w.1, h.sim.frz F ρ σ H _ _ l w.2 fun r v F' ρ' H' l' s kp rv p => ?_⟩⟩
  obtain ⟨F2, s2, l2, rv2⟩ := l'.mv rv
  exact k.nx F2 _ σ H' _ _ l2 (s.trans s2) ((a.mono (s.trans s2)).app (.cons rv2 .nil)) p
theorem dgs_if {c : Expr} {as bs : List Stmt} {tT : TT} {tc : DBT} (hc : DTs X B c tT tc) (ha : DGSs X B as tS t) (hb : DGSs X B bs uS u) : DGS X B (.If c as bs pos) (tGIf tT tS uS) (dgIf tc t u) := by
  refine ⟨gs_if hc.pt ha.gs hb.gs, fun F ρ σ H ys ds E D l a w k => hc.sim F ρ σ H _ _ l w fun b F' ρ' H' l' s kp p => ?_⟩
  cases b with
  | true => exact ha.sim F' ρ' σ H' ys ds E D l' (a.mono s) (by simpa using p) (k.mono s)
  | false => exact hb.sim F' ρ' σ H' ys ds E D l' (a.mono s) (by simpa using p) (k.mono s)
theorem dgs_for {tg iter : Expr} {body : List Stmt} {wi : TI} {g : TG} {tb : TGn} {ti : DIT} {dg : DGT} {td : DTG} {sl : List Nat} (hp : PassesOwn (model X.prog X.w) X.A X.env X.xe) (hc : X.calm = true) (hi : DI X B tg iter wi ti) (hg : DG X B tg sl g dg) (hb : DGSs X B body tb td)
    (hs : ∀ x, foldedSetIterable iter X.env x = pure x := by intro _; rfl) : DGS X B (.For tg iter body [] pos) (tGFor wi g tb) (dgFor ti dg td) := by
  refine ⟨gs_for hp hc hi.pi hg.pg hb.gs hs, fun F ρ σ H ys out E D l a w k => hi.sim F ρ σ H _ _ l w fun J ds F1 ρ1 H1 l1 s1 kp wd p => ?_⟩
  obtain ⟨G, Y, wk, hG, hY⟩ := wd.ex
  refine ⟨fun i m ys2 σ2 H2 => m = ds.length - i ∧ i ≤ ds.length ∧ ∃ (F2 : Hp) (ρ2 : En) (out2 : List Z.D), Rel B F2 ρ2 σ2 H2 ∧ Same F1 F2 ∧ RvA B.K B.hd F2 ys2 out2 ∧ dgForL dg td E (ds.drop i) out2 ρ2, ⟨_, rfl, Nat.zero_le _, F1, ρ1, out, l1, Same.refl _, a.mono s1, p⟩, ?_⟩
  rintro i m ys2 σ2 H2 ⟨rfl, hi', F2, ρ2, out2, l2, s2, a2, p2⟩
  by_cases hlt : i < ds.length
  · refine .inr ⟨wk.goes i H2 hlt (hG F2 ρ2 σ2 H2 l2 s2), fun ys3 σ3 H3 => ∃ (F2 : Hp) (ρ2 : En) (out2 : List Z.D), Rel B F2 ρ2 σ3 H3 ∧ Same F1 F2 ∧ RvA B.K B.hd F2 ys3 out2 ∧ dgForL dg td E (ds.drop (i + 1)) out2 ρ2, fun ys3 σ3 H3 q => ⟨ds.length - (i + 1), by omega, rfl, hlt, q⟩, fun x H3 y => ?_⟩
    obtain ⟨d, F3, ed, l3, s3, rv3, _, _⟩ := hY i F2 ρ2 σ2 H2 x H3 l2 s2 hlt (wk.yields i H2 x H3 hlt (hG F2 ρ2 σ2 H2 l2 s2) y)
    rw [List.drop_eq_getElem_cons hlt, (List.getElem?_eq_some_iff.mp ed).2] at p2
    refine hg.sim F3 ρ2 σ2 H3 x d _ _ l3 rv3 p2 fun F4 ρ4 σ4 H4 l4 s4 o4 p4 => ?_
    refine hb.sim F4 ρ4 σ4 H4 ys2 out2 _ _ l4 (a2.mono (s3.trans s4)) p4 ⟨fun F5 ρ5 σ5 H5 ys5 ds5 l5 s5 a5 q => ⟨F5, ρ5, ds5, l5, s2.trans (s3.trans (s4.trans s5)), a5, q⟩, k.rt, fun F5 ρ5 σ5 H5 ys5 ds5 l5 s5 a5 q => k.nx F5 ρ5 σ5 H5 ys5 ds5 l5 (s1.trans (s2.trans (s3.trans (s4.trans s5)))) a5 q, fun F5 ρ5 σ5 H5 ys5 ds5 l5 s5 a5 q => ⟨F5, ρ5, ds5, l5, s2.trans (s3.trans (s4.trans s5)), a5, q⟩⟩
  · obtain rfl : i = ds.length := by omega
    rw [List.drop_length] at p2
    exact .inl ⟨wk.stops H2 (hG F2 ρ2 σ2 H2 l2 s2), k.nx F2 ρ2 σ2 H2 ys2 out2 l2 (s1.trans s2) a2 p2⟩
theorem dgs_while {c : Expr} {body : List Stmt} {tT : TT} {tc : DBT} {tb : TGn} {td : DTG} (hp : PassesOwn (model X.prog X.w) X.A X.env X.xe) (hc : DTs X B c tT tc) (hb : DGSs X B body tb td) : DGS X B (.While c body [] pos) (tGWhile tT tb) (dgWhile tc td) := by
  refine ⟨gs_while hp hc.pt hb.gs, fun F ρ σ H ys out E D l a w k => ?_⟩
  obtain ⟨W, ⟨m, w0⟩, step⟩ := w
  refine ⟨fun m ys2 σ2 H2 => ∃ (F2 : Hp) (ρ2 : En) (out2 : List Z.D), Rel B F2 ρ2 σ2 H2 ∧ Same F F2 ∧ RvA B.K B.hd F2 ys2 out2 ∧ W m out2 ρ2, ⟨m, F, ρ, out, l, Same.refl _, a, w0⟩, ?_⟩
  rintro m ys2 σ2 H2 ⟨F2, ρ2, out2, l2, s2, a2, w2⟩
  refine hc.sim F2 ρ2 σ2 H2 _ _ l2 (step m out2 ρ2 w2) fun b F3 ρ3 H3 l3 s3 kp p => ?_
  cases b with
  | false => exact k.nx F3 ρ3 σ2 H3 ys2 out2 l3 (s2.trans s3) (a2.mono s3) p
  | true =>
    refine ⟨fun ys4 σ4 H4 => ∃ m', m' < m ∧ ∃ (F2 : Hp) (ρ2 : En) (out2 : List Z.D), Rel B F2 ρ2 σ4 H4 ∧ Same F F2 ∧ RvA B.K B.hd F2 ys4 out2 ∧ W m' out2 ρ2, fun ys4 σ4 H4 q => q, ?_⟩
    refine hb.sim F3 ρ3 σ2 H3 ys2 out2 _ _ l3 (a2.mono s3) p ⟨fun F5 ρ5 σ5 H5 ys5 ds5 l5 s5 a5 ⟨m', hm, q⟩ => ⟨m', hm, F5, ρ5, ds5, l5, s2.trans (s3.trans s5), a5, q⟩, k.rt, fun F5 ρ5 σ5 H5 ys5 ds5 l5 s5 a5 q => k.nx F5 ρ5 σ5 H5 ys5 ds5 l5 (s2.trans (s3.trans s5)) a5 q, fun F5 ρ5 σ5 H5 ys5 ds5 l5 s5 a5 ⟨m', hm, q⟩ => ⟨m', hm, F5, ρ5, ds5, l5, s2.trans (s3.trans s5), a5, q⟩⟩
end
/-! ## a generator def keeps its promise -/
abbrev DWG := List D → (List D → Prop) → EXD → Prop
def spG (K : PySem.W.Frag) (W : DWG) : SpG := fun vs H cont E => ∃ (B : Bs) (ds : List D) (P : List D → Prop) (ex : EXD), B.K = K ∧ B.H0 = H ∧ BOk B ∧ RvA B.K B.hd B.F0 vs ds ∧ W ds P ex ∧ (∀ out ys F' H', P out → After B F' H' → RvA B.K B.hd F' ys out → cont ys H') ∧ LX B ex E
section
variable {P : Program} {w : World} {K : PySem.W.Frag} {mg : Str → Option Value} {base : Heap} {x qual : Str} {st : Stmt} {f : Addr} {fd : FuncData} {N ps : List Str} {k : Nat} {W : DWG}
theorem okG (F : Fun K x qual st f fd) (S : GScope N ps (defScope st)) (hlen : ∀ ds Q ex, W ds Q ex → ds.length = ps.length)
    (hb : ∀ (cdv : Value) (A : Around) (outer : List PySem.Env) (s : Shared) (H : Hp) (E : XK) (pn : List (Addr × Obj)), Room k (A.deeper (PyProof.Rows.envOfC qual (defScope st) s.heap.objs.size f cdv)) → ∀ (md : Option (Addr × Addr)) (F0 : Hp) (a0 : ∀ p, md = some p → H p.2 ≠ none) (ex : EXD), LX ⟨K, md, F0, H, a0⟩ ex E →
      ∃ tS t, DGSs (gcxOf P w K mg base N qual (defScope st) f cdv A outer s H E pn) ⟨K, md, F0, H, a0⟩ (defBody st) tS t ∧ ∀ ds Q, W ds Q ex → t { nx := fun out _ => Q out, rt := fun out r => r = .dat .non ∧ Q out } [] (startD N ds)) : GFn P w K mg base (k + 1) f fd ps (spG K W) := by
  obtain ⟨oc, od, kV, doc, pm, an, cdv, ct, osl, rfl, lk, hcd⟩ := F.ex
  refine gfn_of lk hcd S (fun vs H Q E h => ?_) fun A outer s H vs Q E pn hr h => ?_
  · obtain ⟨B, ds, P, ex, rfl, rfl, ok, a, w, _⟩ := h
    rw [a.len]
    exact hlen ds _ _ w
  · obtain ⟨⟨K', md, F0, H0, a0⟩, ds, P', ex, rfl, rfl, ok, a, w, hk, hl⟩ := h
    obtain ⟨tS, t, d, q⟩ := hb cdv A outer s H0 E pn hr md F0 a0 ex hl
    refine ⟨tS, d.gs, d.sim F0 _ _ H0 [] [] _ _ (start_rel ok a) .nil (q ds P' w) ⟨fun F' ρ' σ' H' ys ds' l _ a' p => hk ds' ys F' H' p l.to a', fun r v F' H' ys ds' af rv a' p => ?_, fun _ _ _ _ _ _ _ _ _ p => p.elim, fun _ _ _ _ _ _ _ _ _ p => p.elim⟩⟩
    obtain ⟨rfl, p⟩ := p
    cases rv
    exact ⟨rfl, hk ds' ys F' H' p af a'⟩
end
/-! ## list of a call of a generator def -/
structure CalG (P : Program) (w : World) (K : PySem.W.Frag) (mg : Str → Option Value) (base : Heap) (x : Str) (k : Nat) (sp : SpG) : Prop where
  ex : ∃ (f : Addr) (fd : FuncData) (ps : List Str), mg x = some (.ref f) ∧ PySem.W.keepIn K (.ref f) = true ∧ Binds K fd ps [] ∧ GFn P w K mg base k f fd ps sp
/-- E, and no StopIteration -/
def NsE (K : PySem.W.Frag) (E : XK) : XK := fun cls d H => PySem.W.subIn K cls (.type "StopIteration") = some false ∧ E cls d H
def tListGW (K : PySem.W.Frag) (sp : SpG) (dvs : List V) (W' : WX) (t : TA) : TE := fun σ H Q => tListG (tCallG sp dvs (NsE K (WE W' σ)) t) σ H Q
def dListG (K : PySem.W.Frag) (W : DWG) (dd : List D) (exE : EXE) (u : DTA) : DT := fun ρ P => u ρ fun rs ρ1 => rs.any R.isVar = false ∧ W (rs.map (vl ρ1) ++ dd) (fun out => P (.new out) ρ1) fun C fs => PySem.W.subIn K (.ref C) (.type "StopIteration") = some false ∧ exE C fs ρ1
end Z
namespace L2
open PySem PySem.Spec PyProof.Rows GenW
/-- list of a generator, where the exception may speak of what the names hold here -/
theorem listG_at {X : Cx} {k : Nat} {g : Expr} {tg : TGen} {Ex : XK} {nm : Str} {p pos : Pos} {τ : L2.St} (made : PGen X k g tg Ex) (px : PassesAt (L2.CX X.prog X.w) X τ Ex) (ns : NoStop X.K Ex) (room : Room (k + 3) X.A) (gl : Gl X nm) (gm : X.mg nm = none) (bt : bootBuiltins nm = some (.type "list")) (nn : nm ≠ "__name__") (nd : (nm == ("__debug__" : Str)) = false)
    (st1 : starEach [g] X.env = (false, eval g X.env) :: starEach [] X.env) (pins : List (Addr × Obj)) (s : Shared) (H : Hp) (Q : VK) (I : Inv X pins τ H s) (want : tListG tg τ H Q) : wpAny (model X.prog X.w) X.A (eval (.Call (.Name nm p) [g] [] pos) X.env) (EP X pins τ Q) X.xe s := by
  apply wpAny_Call_Name_kw
  refine ld_blt I gl gm bt ?_ nn nd
  apply PyProof.Rows.callWith_type1 _ st1 rfl
  rw [st1]
  change wpAny _ _ (spliced ((false, eval g X.env) :: backTo pos (starEach [] X.env))) _ _ s
  apply Calls.spliced_cons
  refine thn (made.run pins s τ H _ I want) ?_
  rintro u t ⟨G1, sc, ex, J1, okx, made1⟩
  apply Calls.spliced_nil
  have big : sc.heap.objs.size ≤ t.heap.objs.size := by
    obtain ⟨_, _, _, _, b1, b2, _⟩ := made1
    exact Nat.le_of_lt (Nat.lt_of_le_of_lt b1 b2)
  apply call_list_new room J1.ok.frames made1
  · intro S t2 acc c G2 ys z0 z1 z2 z2' z3 z4 z5 z6 z7 z8
    exact ⟨V.ref S, upd G2 S (.lst ys), J1.drained (Nat.le_trans big z0) z2' z1 z2 okx z3 z4 z5 z6 z7, rfl, z8 S z7⟩
  · intro e t2 gn air
    have kin : X.K.In t2.heap := by
      obtain ⟨_, B, _, _, _, _, fl, _, ub, _⟩ := id air
      apply J1.ok.mod.kin.keeps
      intro b o eb
      apply fl.1 b o
      apply ub.keep b o (J1.bs b o eb).1 (J1.bs b o eb).2
      intro inn
      rcases List.mem_cons.mp (J1.stkSub b inn) with z | z
      · have l1 := Heap.lt_size eb
        rw [z] at l1
        exact Nat.lt_irrefl _ (Nat.lt_of_lt_of_le l1 (Nat.le_trans J1.ok.bsz J1.ok.above))
      · exact J1.ok.nofr eb z
    refine ⟨notStop_of ns kin air, px pins G1 sc e _ J1 ?_⟩
    obtain ⟨a, B, G', cls, d, y1, fl, y2, ub, y3, y4, y5, y6⟩ := air
    exact ⟨a, B, G', cls, d, y1, fl, y2, ub, y3, y4, allBare_setGen y5 rfl, y6⟩
end L2
namespace Z
open PySem L2
section
variable {X : Cx} {B : Bs} {x : Str} {k : Nat} {W : DWG} {W' : WX} {exE : EXE} {e : Expr} {es : List Expr} {tA : TA} {u : DTA} {p p2 pos pos2 : Pos}
theorem de_listG {K : PySem.W.Frag} (c : CalG X.prog X.w X.K X.mg X.base x k (spG K W)) (hr : Room (k + 3) X.A) (hg : Gl X x) (gl : Gl X "list") (ml : X.mg "list" = none) (tk : Takes X W') (hl : LXT B exE W') (ha : DA X B (e :: es) tA u) (hK : X.K = K := by rfl)
    (hB : B.K = K := by rfl) (hdb : (x == ("__debug__" : Str)) = false := by decide) (he : starEach (e :: es) X.env = (false, eval e X.env) :: starEach es X.env := by rfl) (hpl : (backTo pos (starEach es X.env)).any (·.1) = false := by rfl)
    (he2 : starEach [.Call (.Name x p) (e :: es) [] pos] X.env = (false, eval (.Call (.Name x p) (e :: es) [] pos) X.env) :: starEach [] X.env := by rfl) :
    DE X B (.Call (.Name "list" p2) [.Call (.Name x p) (e :: es) [] pos] [] pos2) (tListGW K (spG K W) [] W' tA) (dListG K W [] exE u) := by
  subst hB
  obtain ⟨f, fd, ps, hm, hk, hb, FO⟩ := c.ex
  have hr1 : Room k X.A := hr.mono (by omega)
  refine ⟨⟨fun pins s σ H Q I hq => ?_⟩, fun F ρ σ H P Q l w kk => ha.sim F ρ σ H _ _ l w fun rs vs F' ρ' H' l' s kp al q => ?_⟩
  · refine listG_at (Ex := NsE B.K (WE W' σ)) (pgen_call FO hr1 hg hm hk hb .nil ha.pe hdb he hpl) (fun pins' H' s' e' s2 I' cx => ?_) (fun cls d H' q => by rw [hK]; exact q.1) hr gl ml rfl (by decide) (by decide) he2 pins s H Q I hq
    refine passAt tk σ pins' H' s' e' s2 I' ?_
    obtain ⟨a, B', H2, cls, d, r1, r2, r3, r4, r5, r6, r7, r8⟩ := cx
    exact ⟨a, B', H2, cls, d, r1, r2, r3, r4, r5, r6, r7, r8.2⟩
  · obtain ⟨nv, q⟩ := q
    refine ⟨⟨B.K, B.md, F', H', l'.a0⟩, _, _, _, rfl, rfl, ⟨l'.sub, fun p e => ⟨(l'.hnd p e).1, (l'.hnd p e).2.1⟩⟩, (al.plain l' nv).app .nil, q, fun out ys F2 H2 po af ra p np => ?_, fun C fs d fv F2 H2 a e1 e2 e3 q => ⟨q.1, hl.1 C fs d fv F2 ρ' σ H2 (l'.after a).1 e1 e2 e3 q.2⟩, fun C F2 H2 a q => ⟨q.1, hl.2 C F2 ρ' σ H2 (l'.after a).1 q.2⟩⟩
    obtain ⟨l2, s2⟩ := l'.after af
    obtain ⟨l3, n3⟩ := l2.newL np ra
    exact kk (.new out) _ F2 ρ' _ l3 (s.trans s2) kp n3 po
end
theorem dgFor_ind {g : DGT} {tb : DTG} {E : DGE} (I : List D → List D → En → Prop) (h0 : ∀ out ρ, I [] out ρ → E.nx out ρ)
    (h1 : ∀ d ds (C : List D → En → Prop) out ρ, I (d :: ds) out ρ → (∀ out' ρ', I ds out' ρ' → C out' ρ') → g d ρ fun ρ1 => tb { E with nx := C, ct := C, bk := E.nx } out ρ1) : ∀ ds out ρ, I ds out ρ → dgForL g tb E ds out ρ
  | [], out, ρ, h => h0 out ρ h
  | d :: ds, out, ρ, h => h1 d ds _ out ρ h fun out' ρ' h' => dgFor_ind I h0 h1 ds out' ρ' h'
/-! ## a call without arguments -/
def dCall0 (W : DW) : DT := fun ρ P => W [] (fun r => P r ρ) exF
theorem de_call0 {X : Cx} {B : Bs} {x : Str} {k : Nat} {W : DW} {p pos : Pos} {K : PySem.W.Frag} (c : Cal X.prog X.w X.K X.mg X.base CX0 x k (spD K W)) (hr : Room k X.A) (hg : Gl X x) (hB : B.K = K := by rfl) (hdb : (x == ("__debug__" : Str)) = false := by decide) :
    DE X B (.Call (.Name x p) [] [] pos) (tCall (spD K W) [] E0 tNil) (dCall0 W) := by
  subst hB
  obtain ⟨f, fd, ps, hm, hk, hb, FO⟩ := c.ex
  refine ⟨pe_call0 FO hr hg hm hk hb .nil pass0 hdb, fun F ρ σ H P Q l w k => ?_⟩
  refine sp_call (vs := []) (rs := []) (P := fun r => P r ρ) l .nil lx0 (fun _ => .nil) ?_ fun r v F2 H2 l2 s2 rv p => k r v F2 ρ H2 l2 s2 Kp.refl rv p
  have w : W [] (fun r => P r ρ) exF := w
  have e : (fun r => bOk [] r ∧ P r ρ) = fun r => P r ρ := by
    funext r
    refine propext ⟨fun h => h.2, fun h => ⟨fun z => ?_, h⟩⟩
    cases z
  rw [e]
  exact w
end Z

set_option Elab.async false
set_option linter.all false
set_option maxRecDepth 100000
namespace Z
open PySem L2
/-! ## a law: the hand is made, then lent -/
def spHand (K : PySem.W.Frag) : Sp := fun vs H Q _ => ∃ (a : Addr) (ns : List Int), vs = [.ref a] ∧ SqL K H a (ns.map V.int) ∧ ns.length ≤ 63 ∧ ∀ h ha H', Same H H' → Hnd H' h ha → H h = none → H ha = none → Q (.ref h) H'
def spLaw (K : PySem.W.Frag) : Sp := fun vs H Q _ => ∃ (a : Addr) (ns : List Int), vs = [.ref a] ∧ SqL K H a (ns.map V.int) ∧ ns.length ≤ 63 ∧ ∀ H', Q (.bl true) H'
theorem law_go {X : Cx} {K : PySem.W.Frag} {first : Stmt} {rest : List Stmt} {n : Nat} {a : Addr} {ns : List Int} {Q : VK} {H : Hp} {tS : TS} {t : DST}
    (h1 : PS X first (tAsg (tCall (spHand K) [] E0 (tCons (tVar 0) tNil)) (gName 1))) (hd : ∀ (md : Option (Addr × Addr)) (F0 H0 : Hp) (a0 : ∀ p, md = some p → H0 p.2 ≠ none), DSs X ⟨K, md, F0, H0, a0⟩ rest tS t)
    (w : ∀ DE0 : DEnds, DE0.rt (.dat (.bl true)) → t DE0 (none :: some (OV.dat .hnd) :: List.replicate n none)) (sq : SqL K H a (ns.map V.int)) (hl : ns.length ≤ 63) (k : ∀ H', Q (.bl true) H') :
    ∃ t', PSs X (first :: rest) t' ∧ t' { nx := fun _ H' => Q .non H', rt := Q } (some (.ref a) :: none :: List.replicate n none) H := by
  have none0 : ∀ p : Addr × Addr, none = some p → H p.2 ≠ none := fun p e => by cases e
  refine ⟨_, pss_cons h1 (hd none (fun _ => none) H none0).ps, ?_⟩
  refine ⟨.ref a, rfl, a, ns, rfl, sq, hl, fun h ha H1 s1 n1 _ _ => ?_⟩
  have hh : H1 ha ≠ none := by
    obtain ⟨cs, i, r, t, _, e2, _⟩ := n1.ex
    rw [e2]; simp
  have hh1 : H1 h ≠ none := by
    obtain ⟨o, e⟩ := n1.there
    rw [e]; simp
  have sim := (hd (some (h, ha)) (fun _ => none) H1 (fun p e => by cases e; exact hh)).sim
  have tail : ∀ (i : Nat) (o : OV), ((none :: some (OV.dat D.hnd) :: List.replicate n none : En))[i]? = some (some o) → i = 1 ∧ o = .dat .hnd := fun i o e => by
    match i, e with
    | 0, e => cases e
    | 1, e => cases e; exact ⟨rfl, rfl⟩
    | j + 2, e =>
      rw [List.getElem?_cons_succ, List.getElem?_cons_succ, List.getElem?_replicate] at e
      split at e <;> cases e
  refine sim (fun _ => none) (none :: some (OV.dat .hnd) :: List.replicate n none) (some (.ref a) :: some (.ref h) :: List.replicate n none) H1 { nx := fun _ => False, rt := fun r => r = .dat (.bl true) } _ ?_ (w _ rfl) ?_
  · refine ⟨by simp, (fun b o e => by cases e), (fun b o e => e), (fun b hb => absurd rfl hb), (fun b o e _ => e), fun p e => ?_, fun i o e => ?_, fun i j o o' v e e' z => ?_⟩
    · cases e
      exact ⟨n1, rfl, hh1⟩
    · obtain ⟨rfl, rfl⟩ := tail i o e
      exact ⟨.ref h, rfl, .hnd rfl⟩
    · obtain ⟨rfl, rfl⟩ := tail i o e
      cases z
  · refine ⟨fun _ _ _ _ _ _ z => z.elim, fun r v F' H' _ rv e => ?_, fun _ _ _ _ _ _ z => z.elim, fun _ _ _ _ _ _ z => z.elim⟩
    subst e
    cases rv
    exact k H'
end Z

set_option Elab.async false
set_option linter.all false
set_option maxRecDepth 100000
set_option maxHeartbeats 2100000
namespace Z
open PySem L2
open PySem.Spec PyProof.Rows
/-! ### the law's own def, called where no text is being made of an object that holds itself -/
def RunAt (P : Program) (w : World) (K : PySem.W.Frag) (mg : Str → Option Value) (base : Heap) (fa : Addr) (fd : FuncData) (ps : List Str) (sp : Sp) : Prop :=
  ∀ (s : Shared) (H : Hp) (args : Args) (us : List Value) (vs : List V) (Q : VK) (E : XK), Env0 P w K mg base callerA [] s H → BindsTo s fd args (ps.zip us) → Vals vs us → sp vs H Q E → codeAny (model P w) callerA (.call (.ref fa) args) (CR CX0 [] P w H s Q E) s
/-- the heap H says nothing but of the script: the run from there -/
theorem run_head {P : Program} {w : World} {K : PySem.W.Frag} {mg mb : Str → Option Value} {fa sc : Addr} {fd : FuncData} {x : Str} {sp : Sp} {st : Shared} {us : List Value} {H : Hp}
    (inK : K.In st.heap) (globs : st.heap.Ns mainGlobals mg) (bns : st.heap.Ns builtinsNs mb) (same : ∀ y : Str, y ≠ "__name__" → mb y = bootBuiltins y) (nolim : st.heap.NoLimit) (nogen : st.gens = #[])
    (here : st.heap.get? sc = some { cls := .type "list", data := .seq us.toArray }) (F : ∀ base : Heap, K.In base → base.Ns mainGlobals mg → RunAt P w K mg base fa fd [x] sp) (binds : ∀ (s : Shared) (v : Value), BindsTo s fd ⟨[v], []⟩ [(x, v)])
    (want : sp [.ref sc] H (fun v _ => v = .bl true) fun _ _ _ => False) (only : Only H) (hok : HOk P w H st.heap) (just : ∀ b, H b ≠ none → b = sc) (apart : H sc ≠ none → K.lookup sc = none) :
    codeAny (model P w) callerA (.call (.ref fa) ⟨[.ref sc], []⟩) (fun res s2 => res = .ok (.ret (.bool true)) ∧ OldK st.heap s2.heap ∧ s2.os = st.os ∧ AllBare s2.gens) st := by
  have none_of : ∀ {b : Addr} {o : Obj}, st.heap.get? b = some o → (H b ≠ none → st.heap.get? sc = some o → False) → H b = none := fun {b o} got no => by
    by_cases hb : H b = none
    · exact hb
    · have eb := just b hb
      subst eb
      exact absurd got fun got => no hb got
  have nsH : ∀ {b : Addr} {m : Str → Option Value}, st.heap.Ns b m → (hidT st.heap H).Ns b m := fun {b m} ns => by
    obtain ⟨o, ents, ep, got, dat, rest⟩ := ns
    refine ⟨o, ents, ep, hidT_get got (none_of got fun _ g2 => ?_), dat, rest⟩
    rw [here] at g2
    cases g2
    have bad : Data.seq us.toArray _ = Data.dict ents ep := dat
    cases bad
  have inH : K.In (hidT st.heap H) := fun b o lk => hidT_get (inK b o lk) (by
    by_cases hb : H b = none
    · exact hb
    · have eb := just b hb
      subst eb
      rw [apart hb] at lk
      cases lk)
  have modH : Mod K mg (hidT st.heap H) := ⟨inH, nsH globs, ⟨mb, nsH bns, same⟩, by
    obtain ⟨mc, c1, c2⟩ := nolim
    exact ⟨mc, nsH c1, c2⟩⟩
  have begin0 : Env0 P w K mg (hidT st.heap H) callerA [] st H := ⟨rfl, modH, fun b o e => of_hidT e, Nat.le_of_eq (hidT_size _ _), trivial, (fun b hb => by cases hb), hok, .of_eq nogen⟩
  refine codeAny_mono (F _ inH (nsH globs) st H ⟨[.ref sc], []⟩ [.ref sc] [.ref sc] _ _ begin0 (binds st (.ref sc)) (.cons rfl .nil) want) fun res s2 got => ?_
  match res, got with
  | .error er, got => exact False.elim got
  | .ok .next, got => exact False.elim got
  | .ok .brk, got => exact False.elim got
  | .ok .cont, got => exact False.elim got
  | .ok (.ret u), got =>
    obtain ⟨v, H2, same2, bare2, un2, hok2, rel2, isT⟩ := got
    have isT2 : v = .bl true := isT
    subst isT2
    cases (show u = Value.bool true from rel2)
    refine ⟨rfl, OldK.of_keep fun b o was => ?_, same2, bare2⟩
    by_cases hb : H b = none
    · exact un2.keep b o was hb (fun z => by cases z) (by simp)
    · rcases only b with z | ⟨ob, xs, z⟩
      · exact absurd z hb
      · have then2 := un2.frzs b ob _ z
        obtain ⟨g1, _⟩ := hok b _ z
        obtain ⟨g2, _⟩ := hok2 b _ then2
        rw [was] at g1
        cases g1
        exact g2
theorem run_call {P : Program} {w : World} {K : PySem.W.Frag} {mg mb : Str → Option Value} {fa sc : Addr} {fd : FuncData} {x : Str} {sp : Sp} {st : Shared} {us : List Value} {zs : List Int}
    (inK : K.In st.heap) (globs : st.heap.Ns mainGlobals mg) (bns : st.heap.Ns builtinsNs mb) (same : ∀ y : Str, y ≠ "__name__" → mb y = bootBuiltins y) (nolim : st.heap.NoLimit) (nogen : st.gens = #[])
    (here : st.heap.get? sc = some { cls := .type "list", data := .seq us.toArray }) (intsA : IntsAre us zs) (short : zs.length ≤ sizeLine) (F : ∀ base : Heap, K.In base → base.Ns mainGlobals mg → RunAt P w K mg base fa fd [x] sp) (binds : ∀ (s : Shared) (v : Value), BindsTo s fd ⟨[v], []⟩ [(x, v)])
    (want : ∀ H : Hp, Only H → SqL K H sc (zs.map V.int) → sp [.ref sc] H (fun v _ => v = .bl true) fun _ _ _ => False) :
    codeAny (model P w) callerA (.call (.ref fa) ⟨[.ref sc], []⟩) (fun res s2 => res = .ok (.ret (.bool true)) ∧ OldK st.heap s2.heap ∧ s2.os = st.os ∧ AllBare s2.gens) st := by
  have rels := vals_ints intsA
  have lens := intsA.length
  by_cases hk : K.lookup sc = none
  · have at_ : ∀ b : Addr, (if b = sc then some (HO.frz { cls := .type "list", data := .seq us.toArray } (.lst (zs.map V.int))) else none) ≠ none → b = sc := fun b hb => by
      by_cases eb : b = sc
      · exact eb
      · rw [if_neg eb] at hb
        exact absurd rfl hb
    have only : Only (fun b => if b = sc then some (.frz { cls := .type "list", data := .seq us.toArray } (.lst (zs.map V.int))) else none) := fun b => by
      by_cases eb : b = sc
      · exact .inr ⟨_, _, if_pos eb⟩
      · exact .inl (if_neg eb)
    refine run_head inK globs bns same nolim nogen here F binds (want _ only (.inl (.inr ⟨{ cls := .type "list", data := .seq us.toArray }, if_pos rfl⟩))) only (fun b u z => ?_) at_ fun _ => hk
    by_cases eb : b = sc
    · have z2 := (if_pos eb).symm.trans z
      cases z2
      subst eb
      exact ⟨here, by rw [List.length_map]; exact short, us, _, rels, here⟩
    · have z2 := (if_neg eb).symm.trans z
      cases z2
  · obtain ⟨o, ho⟩ := Option.ne_none_iff_exists'.mp hk
    have same_o := inK sc o ho
    rw [here] at same_o
    cases same_o
    have only : Only (fun _ : Addr => (none : Option HO)) := fun _ => .inl rfl
    exact run_head inK globs bns same nolim nogen here F binds (want _ only (.inr ⟨_, us.toArray, _, ho, rfl, rfl, rfl, by rw [List.size_toArray, lens]; exact short, by simpa using rels⟩)) only (fun b u z => by cases z) (fun b z => absurd rfl z) fun z => absurd rfl z
theorem run_walk {l : PySem.W.OpenLaw} {n : Nat} {q : Program} {loose : List Str} {XP : (Str → Option Value) → Heap → Prop} {YP : World → Heap → Prop} {d : DefRec} {K : Params → PySem.W.Frag} {sp : World → Sp} {x : Str}
    (most : l.most = some n) (small : n ≤ sizeLine) (plain : d.params.defaults = []) (inK : ∀ (w : World) (h : Heap), YP w h → (K w.params).In h)
    (F : ∀ (w : World) (mg : Str → Option Value) (fa : Addr) (h : Heap), (K w.params).In h → h.Ns mainGlobals mg → mg d.name = some (.ref fa) →
      ∃ fd : FuncData, (∀ (s : Shared) (v : Value), BindsTo s fd ⟨[v], []⟩ [(x, v)]) ∧ ∀ base : Heap, (K w.params).In base → base.Ns mainGlobals mg → RunAt l.prog w (K w.params) mg base fa fd [x] (sp w))
    (want : ∀ (w : World) (H : Hp) (a : Addr) (zs : List Int), zs.length ≤ n → Only H → SqL (K w.params) H a (zs.map V.int) → sp w [.ref a] H (fun v _ => v = .bl true) fun _ _ _ => False) :
    PySem.W.WalkO q loose XP YP l.row.toRowW d [] (fun f vs => PySem.call f vs) := by
  refine Att.attach_call most plain fun w _ st mg mb fa o pm cd doc a us zs G Y _ _ _ named here intsA short nogen => ?_
  have KX := inK w _ Y
  obtain ⟨fd, binds, runs⟩ := F w mg fa _ KX G.T.g named
  exact run_call KX G.T.g G.T.b G.T.builtins G.T.nolimit nogen here intsA (Nat.le_trans short small) runs binds fun H only sq => want w H a zs short only sq
/-- a def's body, run by that caller -/
theorem run_def {P : Program} {w : World} {K : PySem.W.Frag} {mg : Str → Option Value} {base : Heap} {k : Nat} {x qual : Str} {st : Stmt} {f : Addr} {fd : FuncData} {N ps : List Str} {sp : Sp} (D : Fun K x qual st f fd) (S : FnScope N ps (defScope st)) (len : ∀ vs H Q E, sp vs H Q E → vs.length = ps.length) (room : Room (k + 1) callerA)
    (body : ∀ (cdv : Value) (s : Shared) (H : Hp) (vs : List V) (Q : VK) (E : XK), Room k (callerA.deeper (PyProof.Rows.envOfC qual (defScope st) s.heap.objs.size f cdv)) → sp vs H Q E →
      ∃ t, PSs (cxOf CX0 P w K mg base N qual (defScope st) f cdv callerA [] s H E).nox (defBody st) t ∧ t { nx := fun _ H' => Q .non H', rt := Q } (start N vs) H) : RunAt P w K mg base f fd ps sp := by
  obtain ⟨oc, od, kV, doc, pm, an, cdv, ct, osl, rfl, lk, code⟩ := D.ex
  intro s H args us vs Q E begin0 binds rels want
  have many := len _ _ _ _ want
  have inK : K.In s.heap := begin0.mod.kin.keeps fun b o e => (begin0.bs b o e).1
  have nolim : s.heap.NoLimit := begin0.mod.nolimit.keeps fun b o e => (begin0.bs b o e).1
  have kinds : ∀ y ∈ ps.zip us, (defScope st).names.lookup y.1 = some .local ∨ ((defScope st).names.lookup y.1 = some .cell ∧ ((cellsFrom (s.heap.objs.size + 1) (defScope st).names []).lookup y.1).isSome = true) := fun y hy => by
    rcases S.par y.1 (List.of_mem_zip (a := y.1) (b := y.2) hy).1 with loc | cel
    · exact .inl loc
    · exact .inr ⟨cel, PySem.W.cellsFrom_some _ _ _ (.inl cel)⟩
  refine codeAny_call_function room.depth (inK _ _ lk) rfl S.co S.gen rfl (PySem.W.codeRec_of inK code) (binds _ _ _ _ ?_)
  refine wpAny_newFunctionEnv_cells S.kind kinds fun env henv s1 made => ?_
  subst henv
  refine ⟨nolim.keeps made.toInCall.keep, codeAny_func ?_⟩
  obtain ⟨t, ht, goes⟩ := body cdv s H vs Q E (room.deeper _) want
  have inv : Inv (cxOf CX0 P w K mg base N qual (defScope st) f cdv callerA [] s H E) [] (start N vs) H s1 := inv_start S room.hd begin0 many rels made
  refine wpAny_mono (ht.nox.run [] s1 (start N vs) H _ inv goes) (fun fl s2 hs => ?_) fun e s2 hs => hs
  match fl, hs with
  | .ret u, ⟨v, σ2, H2, inv2, rv, got⟩ => exact ⟨v, H2, inv2.os, inv2.bare, inv2.base, inv2.hok, rv, got⟩
  | .next, ⟨σ2, H2, inv2, got⟩ => exact ⟨V.non, H2, inv2.os, inv2.bare, inv2.base, inv2.hok, rfl, got⟩
  | .brk, ⟨_, _, _, got⟩ => exact False.elim got
  | .cont, ⟨_, _, _, got⟩ => exact False.elim got
end Z

set_option Elab.async false
set_option linter.all false
set_option maxRecDepth 100000
namespace Z
open PySem L2
local macro_rules | `(tactic| walk_at "side") => `(tactic| first | omega | (unfold CMul; omega) | (unfold CDiv; omega) | (unfold CDivN; omega) | (unfold CPow; omega) | decide)
local macro_rules | `(tactic| walk_at "lst") => `(tactic| first | exact SqL.of (by assumption) | exact SqL.of upd_same | assumption | exact upd_same)
local macro_rules | `(tactic| walk_at "r1") => `(tactic| first | refine ⟨_, rfl, ?_⟩ | refine ⟨_, _, rfl, rfl, ?_⟩ | refine Or.inl ⟨_, rfl, ?_⟩ | refine And.intro rfl ?_ | refine ⟨_, _, _, _, rfl, rfl, by walk_at "lst", rfl, ?_⟩ | refine ⟨_, _, rfl, Or.inl (by walk_at "lst"), ?_⟩ | refine And.intro (by walk_at "side") ?_)
local macro_rules | `(tactic| walk_at "r") => `(tactic| repeat walk_at "r1")
def top (i : Nat) : Stmt := PySem.Challenge.pw_spentframes_k07_whole_rows_counted_and_f.main.body.getD i (.Pass ⟨0, 0, 0, 0⟩)
abbrev s_mix : Stmt := top 27
abbrev s_draw : Stmt := top 28
section
variable {P : Program} {w : World} {K : PySem.W.Frag} {mg : Str → Option Value} {base : Heap}
theorem sc_mix : FnScope ["number", "turn", "once", "twice"] ["number", "turn"] (defScope s_mix) := ⟨rfl, rfl, rfl, by decide +kernel, rfl, by decide +kernel, by decide +kernel⟩
theorem mix_range {x M : Int} (h : 0 < M) : 0 ≤ x % M ∧ x % M < M := ⟨Int.emod_nonneg x (by omega), Int.emod_lt_of_pos x h⟩
theorem ok_mix {f : Addr} {fd : FuncData} (F : Fun K "_law_mix" "_law_mix" s_mix f fd) (T : Bl mg) : FnOk P w K mg base CX0 1 f fd ["number", "turn"] spMix := by
  refine F.ok sc_mix (fun vs H Q E h => ?_) (fun cdv A outer s H vs Q E hr h => ?_)
  · obtain ⟨a, b, rfl, _⟩ := h
    rfl
  · obtain ⟨a, b, rfl, ha, ha', hb, hb', k⟩ := h
    refine ⟨_,
      (pss_cons (ps_set (i := 2) sc_mix.nd rfl (Or.inl rfl) (pe_op op_mod (pe_callTy call_int1 (by rfl) T.n_int (by decide +kernel) (pa_cons (pe_op op_add (pe_op op_add (pe_op op_mul (pv 0) pe_int) (pe_op op_mul (pv 1) pe_int)) pe_int) pa_nil)) pe_int))
      (pss_cons (ps_set (i := 3) sc_mix.nd rfl (Or.inl rfl) (pe_op op_mod (pe_callTy call_int1 (by rfl) T.n_int (by decide +kernel) (pa_cons (pe_op op_add (pe_op op_add (pe_op op_mul (pv 2) (pv 2)) (pe_op op_mul (pv 1) pe_int)) (pe_op op_fdiv (pv 2) pe_int)) pa_nil)) pe_int))
      (pss_one (ps_ret (pe_op op_fdiv (pe_op op_mod (pe_callTy call_int1 (by rfl) T.n_int (by decide +kernel) (pa_cons (pe_op op_add (pe_op op_mul (pv 3) pe_int) (pv 2)) pa_nil)) pe_int) pe_int)))))
      , ?_⟩
    have m1 := mix_range (x := a * 69069 + b * 30011 + 7) (M := 2147483629) (by decide)
    walk_at "r"
    have m2 := mix_range (x := ((a * 69069 + b * 30011 + 7) % 2147483629 * ((a * 69069 + b * 30011 + 7) % 2147483629) + b * 40503 + (a * 69069 + b * 30011 + 7) % 2147483629 / 977) % 2147483587 * 48271 + (a * 69069 + b * 30011 + 7) % 2147483629) (M := 2147483563) (by decide)
    exact k _ (by omega)
theorem sc_draw : FnScope ["hand", "many", "cell", "rest"] ["hand", "many"] (defScope s_draw) := ⟨rfl, rfl, rfl, by decide +kernel, rfl, by decide +kernel, by decide +kernel⟩
theorem hnd_mk {H : Hp} {h a : Addr} {cells : List Int} {i : Nat} {r t : Int} {o : HO} (eo : o = .lst [.ref a, .int (i : Nat), .int r, .int t]) (e2 : H a = some (.lst (cells.map V.int))) (ne : a ≠ h) (hl : cells.length ≤ 63) (hc : ∀ c ∈ cells, 0 ≤ c) (hi : i ≤ cells.length) (hr : 0 ≤ r) (h0 : 0 ≤ t) (h1 : t < 2147483549) : Hnd (upd H h o) h a :=
  ⟨cells, i, r, t, by rw [eo]; exact upd_same, by rw [upd_ne ne]; exact e2, ne, hl, hc, hi, hr, h0, h1⟩
theorem ok_draw {f : Addr} {fd : FuncData} (F : Fun K "_law_draw" "_law_draw" s_draw f fd) (T : Bl mg) (c_law_mix : Cal P w K mg base CX0 "_law_mix" 1 spMix) : FnOk P w K mg base CX0 2 f fd ["hand", "many"] spDraw := by
  refine F.ok sc_draw (fun vs H Q E h => ?_) (fun cdv A outer s H vs Q E hr h => ?_)
  · obtain ⟨h, a, b, rfl, _⟩ := h
    rfl
  · obtain ⟨h, a, m, rfl, hn, h1, h2, k⟩ := h
    obtain ⟨cells, i, r, t, e1, e2, ne, hlen, hpos, hi, hr0, ht0, ht1⟩ := hn.ex
    have thr : ∃ o, H h = some o := ⟨_, e1⟩
    have fm : ∀ x : Int, 0 ≤ x.fmod m ∧ x.fmod m < m := fun x => ⟨Int.fmod_nonneg_of_pos x (by omega), Int.fmod_lt_of_pos x (by omega)⟩
    have fre : ∀ (b : Addr) (o : HO), H b = none → upd H h o b = none := fun b o z => by rw [upd_ne (ne_of_none e1 z).symm]; exact z
    refine ⟨_,
      (pss_cons (ps_if (PW.pt (pw_and (pt_cmpR op_eq (pe_ix (kix_list K) (pv 0) pe_int (fun _ _ => rfl)) pe_int (nomark _)) (pw_and1 (pt_cmpR op_lt (pe_ix (kix_list K) (pv 0) pe_int (fun _ _ => rfl)) (pe_callB (klen K) (by rfl) T.n_len PySem.boot_len (pa_cons (pe_ix (kix_list K) (pv 0) pe_int (fun _ _ => rfl)) pa_nil)) (nomark _)))))
        (pss_cons (ps_set (i := 2) sc_draw.nd rfl (Or.inl rfl) (pe_ix (kix_list K) (pe_ix (kix_list K) (pv 0) pe_int (fun _ _ => rfl)) (pe_ix (kix_list K) (pv 0) pe_int (fun _ _ => rfl)) (fun _ _ => rfl)))
        (pss_cons (ps_asg (pe_op op_add (pe_ix (kix_list K) (pv 0) pe_int (fun _ _ => rfl)) pe_int) (pg_sub (pv 0) pe_int set_list))
        (pss_cons (ps_if (pt_cmpR op_lt (pv 2) (pe_op op_pow pe_int pe_int) (nomark _))
          (pss_one (ps_ret (pe_op op_modN (pe_callTy call_int1 (by rfl) T.n_int (by decide +kernel) (pa_cons (pe_cal c_law_mix (hr.mono (by decide)) (by rfl) (pa_cons (pe_op op_mod (pe_callTy call_int1 (by rfl) T.n_int (by decide +kernel) (pa_cons (pv 2) pa_nil)) pe_int) (pa_cons (pe_ix (kix_list K) (pv 0) pe_int (fun _ _ => rfl)) pa_nil))) pa_nil)) (pv 1))))
          pss_nil)
        (pss_one (ps_asg (pv 2) (pg_sub (pv 0) pe_int set_list))))))
        pss_nil)
      (pss_cons (ps_if (pt_cmpR op_gt (pe_ix (kix_list K) (pv 0) pe_int (fun _ _ => rfl)) pe_int (nomark _))
        (pss_cons (ps_set (i := 3) sc_draw.nd rfl (Or.inl rfl) (pe_ix (kix_list K) (pv 0) pe_int (fun _ _ => rfl)))
        (pss_cons (ps_asg (pe_op op_fdivN (pv 3) (pv 1)) (pg_sub (pv 0) pe_int set_list))
        (pss_one (ps_ret (pe_op op_modN (pe_callTy call_int1 (by rfl) T.n_int (by decide +kernel) (pa_cons (pv 3) pa_nil)) (pv 1))))))
        pss_nil)
      (pss_cons (ps_asg (pe_op op_mod (pe_callTy call_int1 (by rfl) T.n_int (by decide +kernel) (pa_cons (pe_op op_add (pe_ix (kix_list K) (pv 0) pe_int (fun _ _ => rfl)) pe_int) pa_nil)) pe_int) (pg_sub (pv 0) pe_int set_list))
      (pss_one (ps_ret (pe_op op_modN (pe_callTy call_int1 (by rfl) T.n_int (by decide +kernel) (pa_cons (pe_cal c_law_mix (hr.mono (by decide)) (by rfl) (pa_cons (pe_ix (kix_list K) (pv 0) pe_int (fun _ _ => rfl)) (pa_cons (pe_ix (kix_list K) (pv 0) pe_int (fun _ _ => rfl)) pa_nil))) pa_nil)) (pv 1)))))))
      , ?_⟩
    walk_at "r"
    have tl : ∀ (X : Hp) (i' : Nat) (r' t' : Int), Keep h H X → (∀ b, H b = none → X b = none) → X a = some (.lst (cells.map V.int)) → i' ≤ cells.length → 0 ≤ r' → 0 ≤ t' → t' < 2147483549 →
        ∀ d, 0 ≤ d → d < m → Q (.int d) (upd X h (.lst [.ref a, .int (i' : Nat), .int r', .int t'])) := fun X i' r' t' kp fr f2 hi' hr' ht' ht'' d d0 d1 =>
      k d _ d0 d1 (kp.trans Keep.upd) (hnd_mk rfl f2 ne hlen hpos hi' hr' ht' ht'') (fun b z => by rw [upd_ne (ne_of_none e1 z).symm]; exact fr b z)
    refine iteB (fun c1 => ?_) (fun c1 => ?_)
    · have r0 : r = 0 := dec_i_t c1
      walk_at "r"
      refine iteB (fun c2 => ?_) (fun c2 => ?_)
      · have hil : i < cells.length := by
          have := of_decide_eq_true c2
          simp only [List.length_map] at this
          omega
        have hget : (cells.map V.int)[i]? = some (.int (cells[i])) := by simp [hil]
        walk_at "r"
        refine ⟨_, _, _, _, rfl, rfl, SqL.of e2, atI_nat hget, ?_⟩
        walk_at "r"
        have e3 : upd H h (.lst [.ref a, .int ((i : Int) + 1), .int r, .int t]) h = some (.lst [.ref a, .int ((i + 1 : Nat) : Int), .int r, .int t]) := upd_same
        have kp : Keep h H (upd H h (.lst [.ref a, .int ((i + 1 : Nat) : Int), .int r, .int t])) := Keep.upd
        have fr : ∀ b, H b = none → upd H h (.lst [.ref a, .int ((i + 1 : Nat) : Int), .int r, .int t]) b = none := fun b z => fre b _ z
        have f2 : upd H h (.lst [.ref a, .int ((i + 1 : Nat) : Int), .int r, .int t]) a = some (.lst (cells.map V.int)) := by rw [upd_ne ne]; exact e2
        have hc0 : 0 ≤ cells[i] := hpos _ (List.getElem_mem hil)
        refine iteB (fun c3 => ?_) (fun c3 => ?_)
        · walk_at "r"
          have q := mix_range (x := cells[i]) (M := 2147483629) (by decide)
          refine ⟨_, _, rfl, q.1, by omega, by omega, by omega, fun m' hm => ?_⟩
          walk_at "r"
          have u := tl H (i + 1) r t (Keep.refl _ _) (fun _ z => z) e2 (by omega) hr0 ht0 ht1 (m'.fmod m) (fm _).1 (fm _).2
          exact u
        · walk_at "r"
          have big : (1000000000000000000 : Int) ≤ cells[i] := by
            have z := of_decide_eq_false c3
            have z2 : (10 : Int) ^ Int.toNat 18 = 1000000000000000000 := by decide
            rw [z2] at z
            omega
          refine iteB (fun c4 => ?_) (fun c4 => ?_)
          · walk_at "r"
            refine tl _ (i + 1) (cells[i].fdiv m) t ?_ ?_ ?_ (by omega) (Int.fdiv_nonneg (by omega) (by omega)) ht0 ht1 _ (fm _).1 (fm _).2
            · exact Keep.upd.trans Keep.upd
            · intro b z
              rw [upd_ne (ne_of_none e1 z).symm, upd_ne (ne_of_none e1 z).symm]
              exact z
            · rw [upd_ne ne, upd_ne ne]
              exact e2
          · have z := of_decide_eq_false c4
            omega
      · walk_at "r"
        refine iteB (fun c4 => ?_) (fun c4 => ?_)
        · have z := of_decide_eq_true c4
          omega
        · walk_at "r"
          have q := mix_range (x := t + 1) (M := 2147483549) (by decide)
          refine ⟨_, _, rfl, q.1, by omega, by omega, by omega, fun m' hm => ?_⟩
          walk_at "r"
          exact tl H i r ((t + 1) % 2147483549) (Keep.refl _ _) (fun _ z => z) e2 hi hr0 q.1 q.2 _ (fm _).1 (fm _).2
    · have r0 : r ≠ 0 := dec_i_f c1
      walk_at "r"
      refine iteB (fun c4 => ?_) (fun c4 => ?_)
      · walk_at "r"
        exact tl H i (r.fdiv m) t (Keep.refl _ _) (fun _ z => z) e2 hi (Int.fdiv_nonneg hr0 (by omega)) ht0 ht1 _ (fm _).1 (fm _).2
      · have z := of_decide_eq_false c4
        omega
end
end Z

set_option Elab.async false
set_option linter.all false
set_option maxRecDepth 100000
namespace Z
open PySem L2
local macro_rules | `(tactic| walk_at "d") => `(tactic| simp only [dSq, dIf, dOr, dAnd, dNot, dTT, dTB, dUn, dBin, dVar, dC, dRet, dNext, dOrV, dAndV, dNotT, dIfE, isiD, OV.isOwn, startD, List.map_cons, List.map_nil, List.cons_append, List.nil_append, List.append_nil, List.length_cons, List.length_nil, List.replicate, Nat.reduceAdd, Nat.reduceSub, Nat.sub_self, Nat.add_sub_cancel,
  List.getElem?_cons_zero, List.getElem?_cons_succ, bOk, iv_d, iv_n, iv_v, nr_d, nr_n, List.any_cons, List.any_nil, Bool.or_false, Bool.or_true, Bool.false_eq_true, Bool.not_true, Bool.not_false, false_implies, true_and, and_true, if_true, if_false, ite_true, ite_false, forall_const, reduceIte, reduceCtorEq,
  d0_1, dI_1, ad_i, ad_t, ad_l, ng_1, dCa, dCons, dNil, dTup, dLst, dEq, dSeq, dRange, dEnum, dRg1, dRg2, dListRg, dTupRg, dSl, dONone, dOSome, dCall, mv_d, mv_n, mv_v, nn_n, nn_b, nn_i, nn_s, nn_l, nn_t, nn_x, nn_d, dSetF, dSetO, dDrop, dFor, dgName, dgTup, dgCons, dgNil, dRetN, dYes, it_1, pm_1, nmR, dXf, dIsE, sq_l, sq_t, sq_x, tr_n, tr_b, tr_i, tr_l, tr_t, tr_x, tr_d, vl_d, vl_n, vl_v, fr_d, fr_o, fr_k, sl_l, sl_t, sl_x, le_1, li_1, tu_1, tu_l, tu_t, tu_x, tx_1, tx_l, tx_t, tx_x, rr_d, rr_n, rr_v, in_1, ix_1, dt_1, isB_1, dCallT, dIdx, dRaise, dAsg, dDnew, List.set_cons_zero, List.set_cons_succ, noOwnAt, List.all_cons, List.all_nil, wipeE, lent, hasOwn, Option.map_some, Option.map_none, dLc, lt_n, pl_n, tyB_n, tyI_n, tyS_n, tyL_n, tyT_n, lt_b, pl_b, tyB_b, tyI_b, tyS_b, tyL_b, tyT_b, lt_i, pl_i, tyB_i, tyI_i, tyS_i, tyL_i, tyT_i, lt_s, pl_s, tyB_s, tyI_s, tyS_s, tyL_s, tyT_s, lt_l, pl_l, tyB_l, tyI_l, tyS_l, tyL_l, tyT_l, lt_t, pl_t, tyB_t, tyI_t, tyS_t, tyL_t, tyT_t, lt_x, pl_x, tyB_x, tyI_x, tyS_x, tyL_x, tyT_x, lt_d, pl_d, tyB_d, tyI_d, tyS_d, tyL_d, tyT_d, noL, noLA, Bool.and_true, Bool.true_and])
local macro_rules | `(tactic| walk_at "e") => `(tactic| first | exact ⟨_, rfl, rfl⟩ | rfl)
abbrev s_whole : Stmt := top 7
abbrev s_seq : Stmt := top 8
abbrev s_bc : Stmt := inClass (top 3) 0
abbrev s_br : Stmt := inClass (top 4) 0
abbrev s_count : Stmt := top 12
abbrev s_fa : Stmt := top 13
section
variable {P : Program} {w : World} {K : PySem.W.Frag} {mg : Str → Option Value} {base : Heap}
theorem sc_whole : FnScope ["thing", "low", "high"] ["thing", "low", "high"] (defScope s_whole) := ⟨rfl, rfl, rfl, by decide +kernel, rfl, by decide +kernel, by decide +kernel⟩
theorem sc_seq : FnScope ["thing"] ["thing"] (defScope s_seq) := ⟨rfl, rfl, rfl, by decide +kernel, rfl, by decide +kernel, by decide +kernel⟩
theorem sc_bc : FnScope ["self", "most"] ["self", "most"] (defScope s_bc) := ⟨rfl, rfl, rfl, by decide +kernel, rfl, by decide +kernel, by decide +kernel⟩
theorem sc_br : FnScope ["self", "at"] ["self", "at"] (defScope s_br) := ⟨rfl, rfl, rfl, by decide +kernel, rfl, by decide +kernel, by decide +kernel⟩
theorem sc_count : FnScope ["m", "most"] ["m", "most"] (defScope s_count) := ⟨rfl, rfl, rfl, by decide +kernel, rfl, by decide +kernel, by decide +kernel⟩
def bndD : D → Option (Option Int)
  | .non => some none
  | .int i => some (some i)
  | _ => none
/-- a whole number within bounds -/
def wholeD (d : D) (lo hi : Option Int) : Bool :=
  match d with
  | .int i => (match lo with | some l => decide (l ≤ i) | none => true) && (match hi with | some u => decide (i ≤ u) | none => true)
  | _ => false
def wWhole : DW := fun ds Q _ => ∃ d lo hi l h, ds = [d, lo, hi] ∧ bndD lo = some l ∧ bndD hi = some h ∧ plainD d = true ∧ Q (.dat (.bl (wholeD d l h)))
theorem ok_whole {f : Addr} {fd : FuncData} (F : FunD K "is_whole" "is_whole" (defArgs s_whole) (defBody s_whole) (defScope s_whole) [.non, .non] [] f fd) (T : Bl mg) : FnOk P w K mg base CX0 1 f fd ["thing", "low", "high"] (spD K wWhole) := by
  refine okDD F sc_whole (fun ds Q ex h => ?_) (fun cdv A outer s H E hr md F0 a0 => ⟨_, _,
      (dss_cons (ds_if (DWs.ts (dw_or (dt_truth K (de_isi K .B (by rfl) T.n_isinstance (de_var (pv 0)) (pe_bltn (v := .ty "bool") (u := .type "bool") (by rfl) T.n_bool (by decide +kernel) rfl))) (dw_or1 (dt_not (dt_truth K (de_isi K .I (by rfl) T.n_isinstance (de_var (pv 0)) (pe_bltn (v := .ty "int") (u := .type "int") (by rfl) T.n_int (by decide +kernel) rfl)))))))
        (dss_one (ds_ret de_bl))
        dss_nil)
      (dss_cons (ds_if (DWs.ts (dw_and (dt_cmp op_notN opd_notN (de_var (pv 1)) de_non (nomark _)) (dw_and1 (dt_cmp op_lt opd_B0 (de_var (pv 0)) (de_var (pv 1)) (nomark _)))))
        (dss_one (ds_ret de_bl))
        dss_nil)
      (dss_one (ds_ret (de_or (de_cmp op_isN opd_isN (de_var (pv 2)) de_non (nomark _)) (de_one (de_cmp op_le opd_B0 (de_var (pv 0)) (de_var (pv 2)) (nomark _))))))))
      , fun ds Q ex h => ?_⟩)
  · obtain ⟨_, _, _, _, _, rfl, _⟩ := h
    rfl
  · obtain ⟨d, lo, hi, l, h, rfl, e1, e2, pd, q⟩ := h
    cases d <;> cases pd <;> cases lo <;> cases e1 <;> cases hi <;> cases e2
    all_goals walk_at "d"
    all_goals try exact q
    all_goals (simp only [decide_eq_true_eq]; split <;> rename_i e)
    · simpa [wholeD, Int.not_le.mpr e] using q
    · simpa [wholeD, Int.not_lt.mp e] using q
    · simpa [wholeD, Int.not_le.mpr e] using q
    · simpa [wholeD, Int.not_lt.mp e] using q
def wIsSeq : DW := fun ds Q _ => ∃ d, ds = [d] ∧ plainD d = true ∧ Q (.dat (.bl (isLT d)))
theorem ok_seq {f : Addr} {fd : FuncData} (F : Fun K "is_sequence" "is_sequence" s_seq f fd) (T : Bl mg) : FnOk P w K mg base CX0 1 f fd ["thing"] (spD K wIsSeq) := by
  refine okD F sc_seq (fun ds Q ex h => ?_) (fun cdv A outer s H E hr md F0 a0 => ⟨_, _,
      (dss_one (ds_ret (de_isiLT K (by rfl) T.n_isinstance (de_var (pv 0)) (pe_bltn (v := .ty "list") (u := .type "list") (by rfl) T.n_list (by decide +kernel) rfl) (pe_bltn (v := .ty "tuple") (u := .type "tuple") (by rfl) T.n_tuple (by decide +kernel) rfl))))
      , fun ds Q ex h => ?_⟩)
  · obtain ⟨_, rfl, _⟩ := h
    rfl
  · obtain ⟨d, rfl, pd, q⟩ := h
    walk_at "d"
    exact ⟨pd, q⟩
theorem ok_bc {f C : Addr} {fd : FuncData} (F : Fun K "__init__" "BadCount.__init__" s_bc f fd) (ox : OexC K C) (n1 : PySem.W.findIn K (.ref C) "most" = some none) : FnOk P w K mg base CX0 1 f fd ["self", "most"] (spEx C ["most"]) :=
  ok_ex1 F sc_bc ox n1 rfl fun cdv A outer s H E => pss_one (ps_ost (pv 0) (pv 1))
theorem ok_br {f C : Addr} {fd : FuncData} (F : Fun K "__init__" "BadRow.__init__" s_br f fd) (ox : OexC K C) (n1 : PySem.W.findIn K (.ref C) "at" = some none) : FnOk P w K mg base CX0 1 f fd ["self", "at"] (spEx C ["at"]) :=
  ok_ex1 F sc_br ox n1 rfl fun cdv A outer s H E => pss_one (ps_ost (pv 0) (pv 1))
def wCount (cc : Addr) : DW := fun ds Q ex => ∃ d m, ds = [d, .int m] ∧ plainD d = true ∧ (wholeD d (some 0) (some m) = true → Q (.dat d)) ∧ (wholeD d (some 0) (some m) = false → ex cc [("most", .int m)])
theorem ok_count {cc : Addr} {f : Addr} {fd : FuncData} {dm : V} (F : FunD K "check_count" "check_count" (defArgs s_count) (defBody s_count) (defScope s_count) [dm] [] f fd) (T : Bl mg) (cis_whole : Cal P w K mg base CX0 "is_whole" 1 (spD K wWhole)) (xBadCount : ExK P w K mg base "BadCount" cc ["most"]) :
    FnOk P w K mg base (L2.CX P w) 3 f fd ["m", "most"] (spD K (wCount cc)) := by
  refine okDDX F sc_count (fun ds Q ex h => ?_) (fun cdv A outer s H E hr md F0 a0 ex hl => ⟨_, _,
      (dss_cons (ds_if (dt_not (dt_truth K (de_call cis_whole (hr.mono (by decide)) (by rfl) (da_cons (de_var (pv 0)) (da_cons de_int (da_cons (de_var (pv 1)) da_nil))))))
        (dss_one (ds_raise xBadCount (takes_of rfl rfl rfl rfl) rfl (hr.mono (by decide)) (by rfl) (lxt_fn hl) (da_cons (de_var (pv 1)) da_nil)))
        dss_nil)
      (dss_one (ds_ret (de_var (pv 0)))))
      , fun ds Q h => ?_⟩)
  · obtain ⟨_, _, rfl, _⟩ := h
    rfl
  · obtain ⟨d, m, rfl, pd, h1, h2⟩ := h
    walk_at "d"
    refine ⟨d, _, _, some 0, some m, rfl, rfl, rfl, pd, ?_⟩
    cases e : wholeD d (some 0) (some m) with
    | true =>
      walk_at "d"
      exact h1 e
    | false =>
      walk_at "d"
      exact ⟨by decide, h2 e⟩
/-- the first fault of a row among the frames ns -/
def faultA (ns : List Int) : List D → List Int → Nat → Option Nat
  | [], _, _ => none
  | .int i :: ds, seen, k => if ns.contains i && !seen.contains i then faultA ns ds (seen ++ [i]) (k + 1) else some k
  | _ :: _, _, k => some k
def atD : Option Nat → D
  | some k => .int (k : Nat)
  | none => .non
def faultRow (ns : List Int) (row : D) : D := match seqOfD row with
  | some ds => atD (faultA ns ds [] 0)
  | none => .int (-1)
def plainA (d : D) : Prop := plainD d = true ∧ ∀ ds, seqOfD d = some ds → ∀ e ∈ ds, plainD e = true
def wFault : DW := fun ds Q _ => ∃ lt ns row, ds = [lt, row] ∧ seqOfD lt = some (ns.map D.int) ∧ plainA row ∧ Q (.dat (faultRow ns row))
theorem sc_fa : FnScope ["let", "row", "at", "frame"] ["let", "row"] (defScope s_fa) := ⟨rfl, rfl, rfl, by decide +kernel, rfl, by decide +kernel, by decide +kernel⟩
theorem ok_fa {f : Addr} {fd : FuncData} (F : Fun K "_fault_among" "_fault_among" s_fa f fd) (T : Bl mg) (cis_whole : Cal P w K mg base CX0 "is_whole" 1 (spD K wWhole)) (dis_whole_1 : CalV P w K mg base CX0 "is_whole" 1 (spD K wWhole) [.non, .non]) (cis_sequence : Cal P w K mg base CX0 "is_sequence" 1 (spD K wIsSeq)) :
    FnOk P w K mg base CX0 2 f fd ["let", "row"] (spD K wFault) := by
  refine okD F sc_fa (fun ds Q ex h => ?_) (fun cdv A outer s H E hr md F0 a0 => ⟨_, _,
      (dss_cons (ds_if (dt_not (dt_truth K (de_call cis_sequence (hr.mono (by decide)) (by rfl) (da_cons (de_var (pv 1)) da_nil))))
        (dss_one (ds_ret (de_un un_neg und_neg de_int)))
        dss_nil)
      (dss_cons (ds_for PassesOwn.never rfl (di_enum K (by rfl) T.n_enumerate (de_var (pv 1))) (dg_tup K (n := 2) rfl (dgs_cons (dg_name (i := 2) sc_fa.nd rfl (Or.inl rfl)) (dgs_cons (dg_name (i := 3) sc_fa.nd rfl (Or.inl rfl)) dgs_nil)))
        (dss_one (ds_if (DWs.ts (dw_or (dt_not (dt_truth K (de_callD dis_whole_1 (hr.mono (by decide)) (by rfl) (fun _ => (.cons .non (.cons .non .nil))) (da_cons (de_var (pv 3)) da_nil)))) (dw_or (dt_cmp (knotin_seq K) opd_in (de_var (pv 3)) (de_var (pv 0)) (by rfl)) (dw_or1 (dt_cmp (kin_seq K) opd_in (de_var (pv 3)) (de_slice K (de_var (pv 1)) do_none (do_some (de_var (pv 2)))) (by rfl))))))
          (dss_one (ds_ret (de_var (pv 2))))
          dss_nil)))
      (dss_one (ds_ret de_non))))
      , fun ds Q ex h => ?_⟩)
  · obtain ⟨_, _, _, rfl, _⟩ := h
    rfl
  · obtain ⟨lt, ns, row, rfl, hl, ⟨pr, pe⟩, q⟩ := h
    walk_at "d"
    refine ⟨row, rfl, pr, ?_⟩
    cases er : seqOfD row with
    | none =>
      have e : isLT row = false := by cases row <;> first | rfl | cases er
      rw [e]
      walk_at "d"
      unfold faultRow at q
      rw [er] at q
      exact q
    | some ds =>
      have e : isLT row = true := by cases row <;> first | rfl | cases er
      rw [e]
      walk_at "d"
      have q : Q (.dat (atD (faultA ns ds [] 0))) := by
        unfold faultRow at q
        rw [er] at q
        exact q
      refine enum_go er ?_
      rw [enD_eq]
      have pe' := pe ds er
      refine dFor_ind (fun es ρ => ∃ (rs : List D) (seen : List Int) (a b : Option OV), es = enF seen.length rs ∧ ds = seen.map D.int ++ rs ∧ ρ = [some (OV.dat lt), some (OV.dat row), a, b] ∧ faultA ns rs seen seen.length = faultA ns ds [] 0) ?_ ?_ _ _ ⟨ds, [], _, _, rfl, rfl, rfl, rfl⟩
      · rintro ρ ⟨rs, seen, a, b, e1, e2, rfl, e3⟩
        cases rs with
        | cons _ _ => cases e1
        | nil =>
          rw [← e3] at q
          walk_at "d"
          exact q
      · rintro d es C ρ ⟨rs, seen, a, b, e1, e2, rfl, e3⟩ hC
        cases rs with
        | nil => cases e1
        | cons x rs =>
          cases e1
          walk_at "d"
          refine ⟨x, _, _, none, none, rfl, rfl, rfl, pe' x (by rw [e2]; simp), ?_⟩
          have go : (∀ i, x = .int i → i ∈ ns → i ∉ seen → C [some (OV.dat lt), some (OV.dat row), some (OV.dat (D.int seen.length)), some (OV.dat x)]) := by
            rintro i rfl h1 h2
            refine hC _ ⟨rs, seen ++ [i], _, _, by rw [List.length_append]; rfl, by rw [e2]; simp, rfl, ?_⟩
            rw [← e3, List.length_append]
            show _ = if (ns.contains i && !seen.contains i) = true then _ else _
            rw [if_pos (by simp [h1, h2])]
            rfl
          have stop : faultA ns (x :: rs) seen seen.length = some seen.length → Q (.dat (.int seen.length)) := fun z => by
            rw [← e3, z] at q
            exact q
          cases x <;> try (walk_at "d"; exact stop rfl)
          rename_i i
          have e9 : wholeD (.int i) none none = true := rfl
          rw [e9]
          walk_at "d"
          rw [hl]
          refine ⟨rfl, flat_ints ns, ?_⟩
          rw [in_ints]
          by_cases h1 : i ∈ ns
          · rw [decide_eq_true h1]
            walk_at "d"
            refine dSlv_of er fun r hr hs => ?_
            rw [hs, hr]
            have e8 : cutD ds none (some (seen.length : Int)) = seen.map D.int := by
              rw [cut_to, e2, List.take_left' (by simp)]
            walk_at "d"
            rw [e8]
            refine ⟨rfl, flat_ints _, ?_⟩
            rw [in_ints]
            by_cases h2 : i ∈ seen
            · rw [decide_eq_true h2]
              exact stop (by show (if (ns.contains i && !seen.contains i) = true then _ else _) = _; rw [if_neg (by simp [h2])])
            · rw [decide_eq_false h2]
              exact go i rfl h1 h2
          · rw [decide_eq_false h1]
            exact stop (by show (if (ns.contains i && !seen.contains i) = true then _ else _) = _; rw [if_neg (by simp [h1])])
end
end Z

set_option Elab.async false
set_option linter.all false
set_option maxRecDepth 100000
namespace Z
open PySem L2
local macro_rules | `(tactic| walk_at "d") => `(tactic| simp only [dSq, dIf, dOr, dAnd, dNot, dTT, dTB, dUn, dBin, dVar, dC, dRet, dNext, dOrV, dAndV, dNotT, dIfE, isiD, OV.isOwn, startD, List.map_cons, List.map_nil, List.cons_append, List.nil_append, List.append_nil, List.length_cons, List.length_nil, List.replicate, Nat.reduceAdd, Nat.reduceSub, Nat.sub_self, Nat.add_sub_cancel,
  List.getElem?_cons_zero, List.getElem?_cons_succ, bOk, iv_d, iv_n, iv_v, nr_d, nr_n, List.any_cons, List.any_nil, Bool.or_false, Bool.or_true, Bool.false_eq_true, Bool.not_true, Bool.not_false, false_implies, true_and, and_true, if_true, if_false, ite_true, ite_false, forall_const, reduceIte, reduceCtorEq,
  d0_1, dI_1, ad_i, ad_t, ad_l, ng_1, dCa, dCons, dNil, dTup, dLst, dEq, dSeq, dRange, dEnum, dRg1, dRg2, dListRg, dTupRg, dSl, dONone, dOSome, dCall, mv_d, mv_n, mv_v, nn_n, nn_b, nn_i, nn_s, nn_l, nn_t, nn_x, nn_d, dSetF, dSetO, dDrop, dFor, dgName, dgTup, dgCons, dgNil, dRetN, dYes, it_1, pm_1, nmR, dXf, dIsE, sq_l, sq_t, sq_x, tr_n, tr_b, tr_i, tr_l, tr_t, tr_x, tr_d, vl_d, vl_n, vl_v, fr_d, fr_o, fr_k, sl_l, sl_t, sl_x, le_1, li_1, tu_1, tu_l, tu_t, tu_x, tx_1, tx_l, tx_t, tx_x, rr_d, rr_n, rr_v, in_1, ix_1, dt_1, isB_1, dCallT, dIdx, dRaise, dAsg, dDnew, List.set_cons_zero, List.set_cons_succ, noOwnAt, List.all_cons, List.all_nil, wipeE, lent, hasOwn, Option.map_some, Option.map_none, dLc, lt_n, pl_n, tyB_n, tyI_n, tyS_n, tyL_n, tyT_n, lt_b, pl_b, tyB_b, tyI_b, tyS_b, tyL_b, tyT_b, lt_i, pl_i, tyB_i, tyI_i, tyS_i, tyL_i, tyT_i, lt_s, pl_s, tyB_s, tyI_s, tyS_s, tyL_s, tyT_s, lt_l, pl_l, tyB_l, tyI_l, tyS_l, tyL_l, tyT_l, lt_t, pl_t, tyB_t, tyI_t, tyS_t, tyL_t, tyT_t, lt_x, pl_x, tyB_x, tyI_x, tyS_x, tyL_x, tyT_x, lt_d, pl_d, tyB_d, tyI_d, tyS_d, tyL_d, tyT_d, noL, noLA, Bool.and_true, Bool.true_and])
local macro_rules | `(tactic| walk_at "e") => `(tactic| first | exact ⟨_, rfl, rfl⟩ | rfl)
abbrev s_rf : Stmt := top 14
abbrev s_cr : Stmt := top 15
section
variable {P : Program} {w : World} {K : PySem.W.Frag} {mg : Str → Option Value} {base : Heap}
/-! ## rows -/
def rgI (a b : Int) : List Int := (List.range (b - a).toNat).map fun i => a + (i : Nat)
theorem rgD_I (a b : Int) : rgD a b = (rgI a b).map D.int := by
  unfold rgD rgI
  rw [List.map_map]
  rfl
theorem rgI_mem {a b x : Int} : x ∈ rgI a b ↔ a ≤ x ∧ x < b := by
  unfold rgI
  rw [List.mem_map]
  constructor
  · rintro ⟨i, hi, rfl⟩
    rw [List.mem_range] at hi
    omega
  · intro h
    exact ⟨(x - a).toNat, by rw [List.mem_range]; omega, by omega⟩
theorem rgI_len (a b : Int) : (rgI a b).length = (b - a).toNat := by unfold rgI; rw [List.length_map, List.length_range]
theorem sc_rf : FnScope ["m", "row"] ["m", "row"] (defScope s_rf) := ⟨rfl, rfl, rfl, by decide +kernel, rfl, by decide +kernel, by decide +kernel⟩
def wRowFault : DW := fun ds Q _ => ∃ m row, ds = [.int m, row] ∧ 0 ≤ m ∧ m ≤ 2 ^ 20 ∧ plainA row ∧ Q (.dat (faultRow (rgI 0 m) row))
theorem ok_rf {f : Addr} {fd : FuncData} (F : Fun K "row_fault" "row_fault" s_rf f fd) (T : Bl mg) (c_fault_among : Cal P w K mg base CX0 "_fault_among" 2 (spD K wFault)) : FnOk P w K mg base CX0 3 f fd ["m", "row"] (spD K wRowFault) := by
  refine okD F sc_rf (fun ds Q ex h => ?_) (fun cdv A outer s H E hr md F0 a0 => ⟨_, _,
      (dss_one (ds_ret (de_call c_fault_among (hr.mono (by decide)) (by rfl) (da_cons (de_listRg rfl (by rfl) T.n_list (drg_1 (by rfl) T.n_range (de_var (pv 0)))) (da_cons (de_var (pv 1)) da_nil)))))
      , fun ds Q ex h => ?_⟩)
  · obtain ⟨_, _, rfl, _⟩ := h
    rfl
  · obtain ⟨m, row, rfl, h0, h1, pr, q⟩ := h
    walk_at "d"
    refine ⟨RgOk.of_le (by omega) (by omega) (by omega) h0, _, rgI 0 m, row, rfl, by rw [rgD_I]; rfl, pr, ?_⟩
    walk_at "d"
    exact q
theorem fault_cases (ns : List Int) (row : D) : faultRow ns row = .non ∨ ∃ k : Int, faultRow ns row = .int k := by
  unfold faultRow
  cases seqOfD row with
  | none => exact .inr ⟨-1, rfl⟩
  | some ds =>
    simp only
    cases faultA ns ds [] 0 with
    | none => exact .inl rfl
    | some k => exact .inr ⟨k, rfl⟩
theorem faultA_none (ns : List Int) : ∀ (ds : List D) (seen : List Int) (k : Nat), faultA ns ds seen k = none → ∃ is : List Int, ds = is.map D.int ∧ (∀ i ∈ is, i ∈ ns)
  | [], _, _, _ => ⟨[], rfl, by simp⟩
  | .int i :: ds, seen, k, h => by
    have h : (if (ns.contains i && !seen.contains i) = true then faultA ns ds (seen ++ [i]) (k + 1) else some k) = none := h
    split at h
    · rename_i e
      obtain ⟨is, e1, e2⟩ := faultA_none ns ds _ _ h
      rw [Bool.and_eq_true] at e
      refine ⟨i :: is, by rw [e1]; rfl, fun j hj => ?_⟩
      rcases List.mem_cons.mp hj with rfl | hj
      · simpa using e.1
      · exact e2 j hj
    · cases h
  | .non :: _, _, _, h => by cases h
  | .bl _ :: _, _, _, h => by cases h
  | .str _ :: _, _, _, h => by cases h
  | .lst _ :: _, _, _, h => by cases h
  | .tup _ :: _, _, _, h => by cases h
  | .dct _ _ :: _, _, _, h => by cases h
  | .obj _ _ _ :: _, _, _, h => by cases h
  | .cls _ :: _, _, _, h => by cases h
  | .hnd :: _, _, _, h => by cases h
  | .ty _ :: _, _, _, h => by cases h
  | .tpx _ :: _, _, _, h => by cases h
theorem fault_none {ns : List Int} {row : D} (h : faultRow ns row = .non) : ∃ is : List Int, seqOfD row = some (is.map D.int) ∧ ∀ i ∈ is, i ∈ ns := by
  unfold faultRow at h
  cases e : seqOfD row with
  | none => rw [e] at h; cases h
  | some ds =>
    rw [e] at h
    simp only at h
    cases e2 : faultA ns ds [] 0 with
    | some k => rw [e2] at h; cases h
    | none =>
      obtain ⟨is, e1, e3⟩ := faultA_none ns ds _ _ e2
      exact ⟨is, by rw [e1], e3⟩
theorem tup_of {row : D} {is : List Int} {P : R → Prop} (e : seqOfD row = some (is.map D.int)) (h : ∀ t, tupI t is → P (.dat t)) : match tupOfD row with | some d => P (.dat d) | none => False := by
  cases row <;> first | cases e | skip
  · exact h _ (.inl rfl)
  · exact h _ (.inl rfl)
  · exact h _ (.inr rfl)
theorem whole_int {d : D} {a b : Int} (h : wholeD d (some a) (some b) = true) : ∃ i : Int, d = .int i ∧ a ≤ i ∧ i ≤ b := by
  cases d <;> first | cases h | skip
  rename_i i
  refine ⟨i, rfl, ?_⟩
  have h : (decide (a ≤ i) && decide (i ≤ b)) = true := h
  simpa using h
def rowEx (cc cr : Addr) (d row : D) (ex : EXD) : Prop := (wholeD d (some 0) (some 24) = false → ex cc [("most", .int 24)]) ∧ ∀ n k, d = .int n → 0 ≤ n → n ≤ 24 → faultRow (rgI 0 n) row = .int k → ex cr [("at", .int k)]
theorem sc_cr : FnScope ["m", "row", "at"] ["m", "row"] (defScope s_cr) := ⟨rfl, rfl, rfl, by decide +kernel, rfl, by decide +kernel, by decide +kernel⟩
def wCheckRow (cc cr : Addr) : DW := fun ds Q ex => ∃ d row, ds = [d, row] ∧ plainD d = true ∧ plainA row ∧ rowEx cc cr d row ex ∧
  ∀ n is, d = .int n → 0 ≤ n → n ≤ 24 → faultRow (rgI 0 n) row = .non → seqOfD row = some (is.map D.int) → ∀ t, tupI t is → Q (.dat t)
theorem ok_cr {cc cr f : Addr} {fd : FuncData} (F : Fun K "check_row" "check_row" s_cr f fd) (T : Bl mg) (dcheck_count_1 : CalV P w K mg base (L2.CX P w) "check_count" 3 (spD K (wCount cc)) [.int 24]) (crow_fault : Cal P w K mg base CX0 "row_fault" 3 (spD K wRowFault)) (xBadRow : ExK P w K mg base "BadRow" cr ["at"]) :
    FnOk P w K mg base (L2.CX P w) 4 f fd ["m", "row"] (spD K (wCheckRow cc cr)) := by
  refine okDX F sc_cr (fun ds Q ex h => ?_) (fun cdv A outer s H E hr md F0 a0 ex hl => ⟨_, _,
      (dss_cons (ds_expr (de_callT dcheck_count_1 (hr.mono (by decide)) (by rfl) (takes_of rfl rfl rfl rfl) (lxt_fn hl) (fun _ => (.cons (.int 24) .nil)) (da_cons (de_var (pv 0)) da_nil)))
      (dss_cons (ds_setF (i := 2) sc_cr.nd rfl (Or.inl rfl) (de_call crow_fault (hr.mono (by decide)) (by rfl) (da_cons (de_var (pv 0)) (da_cons (de_var (pv 1)) da_nil))))
      (dss_cons (ds_if (dt_cmp op_notN opd_notN (de_var (pv 2)) de_non (nomark _))
        (dss_one (ds_raise xBadRow (takes_of rfl rfl rfl rfl) rfl (hr.mono (by decide)) (by rfl) (lxt_fn hl) (da_cons (de_var (pv 2)) da_nil)))
        dss_nil)
      (dss_one (ds_ret (de_callTy (ktuple_of K) cad_tuple (by rfl) T.n_tuple (by decide +kernel) (da_cons (de_var (pv 1)) da_nil)))))))
      , fun ds Q h => ?_⟩)
  · obtain ⟨_, _, rfl, _⟩ := h
    rfl
  · obtain ⟨d, row, rfl, pd, pr, ⟨h1, h2⟩, h3⟩ := h
    walk_at "d"
    refine ⟨d, 24, rfl, pd, fun e => ?_, fun e => ?_⟩
    · walk_at "d"
      obtain ⟨n, rfl, l1, l2⟩ := whole_int e
      refine ⟨n, row, rfl, l1, by omega, pr, ?_⟩
      rcases fault_cases (rgI 0 n) row with ef | ⟨k, ef⟩
      · rw [ef]
        walk_at "d"
        obtain ⟨is, ei, _⟩ := fault_none ef
        exact tup_of (P := Q) ei fun t ht => h3 n is rfl l1 l2 ef ei t ht
      · rw [ef]
        walk_at "d"
        exact ⟨by decide, h2 n k rfl l1 l2 ef⟩
    · exact h1 e
theorem atI_nat {α : Type} {xs : List α} {j : Nat} : atI xs (j : Int) = xs[j]? := by
  unfold atI ixN
  rw [if_pos (by omega)]
  by_cases h : j < xs.length
  · rw [if_pos (by omega)]
    rfl
  · rw [if_neg (by omega), List.getElem?_eq_none (by omega)]
    rfl
theorem nodup_len {n : Nat} : ∀ {ls : List Int}, ls.Nodup → (∀ i ∈ ls, 0 ≤ i ∧ i < n) → ls.length ≤ n := by
  induction n with
  | zero =>
    intro ls _ h
    cases ls with
    | nil => exact Nat.le_refl _
    | cons x xs => have := h x List.mem_cons_self; omega
  | succ n ih =>
    intro ls nd h
    have e : (ls.filter fun i => decide (i ≠ (n : Int))).length ≤ n := ih (nd.sublist List.filter_sublist) fun i hi => by
      rw [List.mem_filter] at hi
      have := h i hi.1
      have h2 : i ≠ (n : Int) := by simpa using hi.2
      omega
    have e2 : ls.length ≤ (ls.filter fun i => decide (i ≠ (n : Int))).length + 1 := by
      clear ih h e
      induction ls with
      | nil => simp
      | cons x xs ih =>
        rw [List.nodup_cons] at nd
        by_cases hx : x = (n : Int)
        · have : xs.filter (fun i => decide (i ≠ (n : Int))) = xs := by
            rw [List.filter_eq_self]
            intro a ha
            simp
            intro z
            exact nd.1 (by rw [hx, ← z]; exact ha)
          rw [List.filter_cons, if_neg (by simp [hx]), this]
          simp
        · rw [List.filter_cons, if_pos (by simp [hx]), List.length_cons, List.length_cons]
          have := ih nd.2
          omega
    omega
theorem faultA_len (ns : List Int) : ∀ (is seen : List Int) (k : Nat), seen.Nodup → (∀ i ∈ seen, i ∈ ns) → faultA ns (is.map D.int) seen k = none → (seen ++ is).Nodup
  | [], seen, _, nd, _, _ => by rw [List.append_nil]; exact nd
  | i :: is, seen, k, nd, hm, h => by
    have h : (if (ns.contains i && !seen.contains i) = true then faultA ns (is.map D.int) (seen ++ [i]) (k + 1) else some k) = none := h
    split at h
    · rename_i e
      rw [Bool.and_eq_true] at e
      have e1 : i ∈ ns := by simpa using e.1
      have e2 : i ∉ seen := by simpa using e.2
      have := faultA_len ns is (seen ++ [i]) (k + 1) (by rw [List.nodup_append]; exact ⟨nd, by simp, by rintro a ha b hb rfl; simp at hb; subst hb; exact e2 ha⟩) (fun j hj => by
        rcases List.mem_append.mp hj with hj | hj
        · exact hm j hj
        · simp at hj; subst hj; exact e1) h
      rw [List.append_assoc] at this
      exact this
    · cases h
theorem fault_nodup {ns is : List Int} {row : D} (h : faultRow ns row = .non) (e : seqOfD row = some (is.map D.int)) : is.Nodup := by
  unfold faultRow at h
  rw [e] at h
  simp only at h
  cases e2 : faultA ns (is.map D.int) [] 0 with
  | some k => rw [e2] at h; cases h
  | none => exact faultA_len ns is [] 0 (by simp) (by simp) e2
theorem ints_inj {ns ms : List Int} (h : ns.map D.int = ms.map D.int) : ns = ms := by
  induction ns generalizing ms with
  | nil => cases ms with
    | nil => rfl
    | cons _ _ => cases h
  | cons n ns ih => cases ms with
    | nil => cases h
    | cons m ms =>
      rw [List.map_cons, List.map_cons] at h
      injection h with h1 h2
      cases h1
      rw [ih h2]
theorem List.idxOf_le_of_getElem? : ∀ (ls : List Int) (m : Nat) (i : Int), ls[m]? = some i → ls.idxOf i ≤ m
  | [], m, i, h => by simp at h
  | x :: ls, 0, i, h => by
    simp at h
    subst h
    simp
  | x :: ls, m + 1, i, h => by
    have := List.idxOf_le_of_getElem? ls m i (by simpa using h)
    rw [List.idxOf_cons]
    cases (x == i) <;> simp <;> omega
theorem idx_ints {ls : List Int} {i : Int} (h : i ∈ ls) : IdxAt (ls.map D.int) (.int i) (ls.idxOf i) := by
  refine ⟨rfl, flat_ints ls, .int i, ?_, ?_, fun m z hm e => ?_⟩
  · rw [List.getElem?_map, List.getElem?_eq_getElem (List.idxOf_lt_length_of_mem h), List.getElem_idxOf]
    rfl
  · show (i == i) = true
    simp
  · rw [List.getElem?_map] at e
    have hl : m < ls.length := Nat.lt_trans hm (List.idxOf_lt_length_of_mem h)
    rw [List.getElem?_eq_getElem hl] at e
    cases e
    show (ls[m] == i) = false
    rw [beq_eq_false_iff_ne]
    intro z
    have := List.idxOf_le_of_getElem? ls m i (by rw [List.getElem?_eq_getElem hl, z])
    omega
theorem rgI_nodup (a b : Int) : (rgI a b).Nodup := by
  unfold rgI
  rw [List.Nodup, List.pairwise_map]
  refine List.Pairwise.imp (fun {x y} h => ?_) List.nodup_range
  intro z
  exact h (by omega)
end
end Z

set_option Elab.async false
set_option linter.all false
set_option maxRecDepth 100000
namespace Z
open PySem L2
local macro_rules | `(tactic| walk_at "d") => `(tactic| simp only [dSq, dIf, dOr, dAnd, dNot, dTT, dTB, dUn, dBin, dVar, dC, dRet, dNext, dOrV, dAndV, dNotT, dIfE, isiD, OV.isOwn, startD, List.map_cons, List.map_nil, List.cons_append, List.nil_append, List.append_nil, List.length_cons, List.length_nil, List.replicate, Nat.reduceAdd, Nat.reduceSub, Nat.sub_self, Nat.add_sub_cancel,
  List.getElem?_cons_zero, List.getElem?_cons_succ, bOk, iv_d, iv_n, iv_v, nr_d, nr_n, List.any_cons, List.any_nil, Bool.or_false, Bool.or_true, Bool.false_eq_true, Bool.not_true, Bool.not_false, false_implies, true_and, and_true, if_true, if_false, ite_true, ite_false, forall_const, reduceIte, reduceCtorEq,
  d0_1, dI_1, ad_i, ad_t, ad_l, ng_1, dCa, dCons, dNil, dTup, dLst, dEq, dSeq, dRange, dEnum, dRg1, dRg2, dListRg, dTupRg, dSl, dONone, dOSome, dCall, mv_d, mv_n, mv_v, nn_n, nn_b, nn_i, nn_s, nn_l, nn_t, nn_x, nn_d, dSetF, dSetO, dDrop, dFor, dgName, dgTup, dgCons, dgNil, dRetN, dYes, it_1, pm_1, nmR, dXf, dIsE, sq_l, sq_t, sq_x, tr_n, tr_b, tr_i, tr_l, tr_t, tr_x, tr_d, vl_d, vl_n, vl_v, fr_d, fr_o, fr_k, sl_l, sl_t, sl_x, le_1, li_1, tu_1, tu_l, tu_t, tu_x, tx_1, tx_l, tx_t, tx_x, rr_d, rr_n, rr_v, in_1, ix_1, dt_1, isB_1, dCallT, dIdx, dRaise, dAsg, dDnew, List.set_cons_zero, List.set_cons_succ, noOwnAt, List.all_cons, List.all_nil, wipeE, lent, hasOwn, Option.map_some, Option.map_none, dLc, lt_n, pl_n, tyB_n, tyI_n, tyS_n, tyL_n, tyT_n, lt_b, pl_b, tyB_b, tyI_b, tyS_b, tyL_b, tyT_b, lt_i, pl_i, tyB_i, tyI_i, tyS_i, tyL_i, tyT_i, lt_s, pl_s, tyB_s, tyI_s, tyS_s, tyL_s, tyT_s, lt_l, pl_l, tyB_l, tyI_l, tyS_l, tyL_l, tyT_l, lt_t, pl_t, tyB_t, tyI_t, tyS_t, tyL_t, tyT_t, lt_x, pl_x, tyB_x, tyI_x, tyS_x, tyL_x, tyT_x, lt_d, pl_d, tyB_d, tyI_d, tyS_d, tyL_d, tyT_d, noL, noLA, Bool.and_true, Bool.true_and])
local macro_rules | `(tactic| walk_at "e") => `(tactic| first | exact ⟨_, rfl, rfl⟩ | rfl)
abbrev s_srow : Stmt := top 29
abbrev s_sqd : Stmt := top 30
abbrev s_ex : Stmt := top 26
section
variable {P : Program} {w : World} {K : PySem.W.Frag} {mg : Str → Option Value} {base : Heap}
def wDraw : DW := fun ds Q _ => ∃ m : Int, ds = [.hnd, .int m] ∧ 1 ≤ m ∧ m < 1073741824 ∧ ∀ d : Int, 0 ≤ d → d < m → Q (.dat (.int d))
theorem spD_draw {vs : List V} {H : Hp} {Q : VK} {E : XK} (h : spD K wDraw vs H Q E) : spDraw vs H Q E := by
  obtain ⟨B, ds, P', ex, rfl, rfl, ok, a, ⟨m, rfl, m0, m1, q⟩, hk, _⟩ := h
  cases a with
  | cons a1 a2 =>
    cases a2 with
    | cons a2 a3 =>
      cases a3
      cases a2
      cases a1 with
      | @hnd h e =>
        have e : B.md.map (·.1) = some h := e
        cases em : B.md with
        | none => rw [em] at e; cases e
        | some p =>
          rw [em] at e
          obtain ⟨p1, p2⟩ := p
          cases e
          obtain ⟨hn, f0⟩ := ok.hnd _ em
          obtain ⟨o, ho⟩ := hn.there
          refine ⟨p1, p2, m, rfl, hn, m0, m1, fun d H' d0 d1 kp hn' _ => hk (.dat (.int d)) _ B.F0 H' (q d d0 d1) ⟨Same.refl _, fun b o ez => ?_, fun b hb => .inl hb, fun b o e n => kp b o e (n _ em), fun p e => ?_⟩ (.int d)⟩
          · refine kp b o (ok.sub _ _ ez) fun z => ?_
            subst z
            have f0 : B.F0 b = none := f0
            rw [f0] at ez; cases ez
          · rw [em] at e
            cases e
            exact ⟨hn', f0, by show B.H0 p1 ≠ none; rw [ho]; simp⟩
theorem draw_D (c : Cal P w K mg base CX0 "_law_draw" 2 spDraw) : Cal P w K mg base CX0 "_law_draw" 2 (spD K wDraw) := by
  obtain ⟨f, fd, ps, h1, h2, h3, h4⟩ := c.ex
  exact ⟨f, fd, ps, h1, h2, h3, h4.imp fun vs H Q E h => spD_draw h⟩
theorem perm_er {α : Type} : ∀ {l : List α} {d : Nat} (h : d < l.length), ([l[d]] ++ l.eraseIdx d).Perm l
  | x :: l, 0, _ => .refl _
  | x :: l, d + 1, h => (List.Perm.swap _ _ _).trans ((perm_er (l := l) (d := d) (by simpa using h)).cons x)
theorem er_map : ∀ (l : List Int) (t : Nat), (l.eraseIdx t).map D.int = (l.map D.int).eraseIdx t
  | [], _ => rfl
  | _ :: _, 0 => rfl
  | x :: l, t + 1 => by
    rw [List.eraseIdx_cons_succ, List.map_cons, List.map_cons, List.eraseIdx_cons_succ, er_map l t]
theorem seqIndex_nat {t n : Nat} (h : t < n) : seqIndex? (t : Int) n = some t := by
  unfold seqIndex?
  simp only [show ¬ ((t : Int) < 0) by omega, if_false]
  rw [if_pos (by simp; omega)]
  simp
theorem pn_ints : ∀ ns : List Int, noLA (ns.map D.int) = true
  | [] => rfl
  | n :: ns => by simpa [noLA, noL] using pn_ints ns
theorem sc_srow : FnScope ["hand", "m", "d", "left", "row", "step"] ["hand", "m", "d"] (defScope s_srow) := ⟨rfl, rfl, rfl, by decide +kernel, rfl, by decide +kernel, by decide +kernel⟩
abbrev rowT (is : List Int) : D := .tup (is.map D.int)
def wSomeRow : DW := fun ds Q _ => ∃ m d : Int, ds = [.hnd, .int m, .int d] ∧ 0 ≤ d ∧ d ≤ m ∧ m ≤ 1000 ∧ ∀ is : List Int, is.Nodup → (∀ i ∈ is, 0 ≤ i ∧ i < m) → is.length = d.toNat → Q (.dat (rowT is))
theorem ok_srow {f : Addr} {fd : FuncData} (F : Fun K "_law_some_row" "_law_some_row" s_srow f fd) (T : Bl mg) (c_law_draw : Cal P w K mg base CX0 "_law_draw" 2 (spD K wDraw)) : FnOk P w K mg base CX0 3 f fd ["hand", "m", "d"] (spD K wSomeRow) := by
  refine okD F sc_srow (fun ds Q ex h => ?_) (fun cdv A outer s H E hr md F0 a0 => ⟨_, _,
      (dss_cons (ds_setO (i := 3) sc_srow.nd rfl (Or.inl rfl) (de_listRg rfl (by rfl) T.n_list (drg_1 (by rfl) T.n_range (de_var (pv 1)))))
      (dss_cons (ds_setO (i := 4) sc_srow.nd rfl (Or.inl rfl) (de_lst da_nil))
      (dss_cons (ds_for PassesOwn.never rfl (di_range1 (by rfl) T.n_range (de_var (pv 2))) (dg_name (i := 5) sc_srow.nd rfl (Or.inl rfl))
        (dss_one (ds_expr (de_append (pv 4) (de_pop (pv 3) (de_call c_law_draw (hr.mono (by decide)) (by rfl) (da_cons (de_var (pv 0)) (da_cons (de_callB (klen K) cad_len (by rfl) T.n_len PySem.boot_len (da_cons (de_var (pv 3)) da_nil)) da_nil))))))))
      (dss_one (ds_ret (de_callTy (ktuple_of K) cad_tuple (by rfl) T.n_tuple (by decide +kernel) (da_cons (de_var (pv 4)) da_nil)))))))
      , fun ds Q ex h => ?_⟩)
  · obtain ⟨_, _, rfl, _⟩ := h
    rfl
  · obtain ⟨m, d, rfl, d0, d1, m1, q⟩ := h
    walk_at "d"
    refine ⟨RgOk.of_le (by omega) (by omega) (by omega) (by omega), Nat.zero_le _, by unfold R62; omega, by unfold R62; omega, ?_⟩
    rw [rgD_I, rgD_I]
    have hl0 : (rgI 0 m).length = m.toNat := by rw [rgI_len]; omega
    have nd0 : (rgI 0 m).Nodup := rgI_nodup 0 m
    refine dFor_ind (fun es ρ => ∃ (js left row : List Int) (b : Option OV), es = js.map D.int ∧ ρ = [some (OV.dat .hnd), some (OV.dat (.int m)), some (OV.dat (.int d)), some (OV.own (left.map D.int)), some (OV.own (row.map D.int)), b] ∧
      (row ++ left).Perm (rgI 0 m) ∧ row.length + js.length = d.toNat) ?_ ?_ _ _ ⟨rgI 0 d, rgI 0 m, [], _, rfl, rfl, .refl _, by rw [rgI_len]; show 0 + _ = _; omega⟩
    · rintro ρ ⟨js, left, row, b, e1, rfl, e2, e3⟩
      cases js with
      | cons _ _ => cases e1
      | nil =>
        have nd : (row ++ left).Nodup := e2.nodup_iff.mpr nd0
        walk_at "d"
        refine ⟨pn_ints _, q row (List.nodup_append.mp nd).1 (fun i hi => rgI_mem.mp (e2.mem_iff.mp (List.mem_append_left _ hi))) (by simpa using e3)⟩
    · rintro x es C ρ ⟨js, left, row, b, e1, rfl, e2, e3⟩ hC
      cases js with
      | nil => cases e1
      | cons j js =>
        cases e1
        rw [List.length_cons] at e3
        have hl := e2.length_eq
        rw [List.length_append, hl0] at hl
        unfold dApp dPop isOwnL ownAt
        walk_at "d"
        rw [List.length_map]
        refine ⟨left.length, rfl, by omega, by omega, fun y y0 y1 => ?_⟩
        walk_at "d"
        obtain ⟨t, rfl⟩ : ∃ t : Nat, y = t := ⟨y.toNat, by omega⟩
        have ht : t < left.length := by omega
        refine ⟨_, t, .int left[t], rfl, by unfold R63; omega, seqIndex_nat ht, by rw [List.getElem?_map, List.getElem?_eq_getElem ht]; rfl, ?_, ?_⟩
        · rw [List.length_map]
          exact Nat.lt_of_lt_of_le (by omega : row.length < 1001) (by decide)
        · refine hC _ ⟨js, left.eraseIdx t, row ++ [left[t]], _, rfl, by rw [er_map, List.map_append]; rfl, ?_, by rw [List.length_append]; show row.length + 1 + _ = _; omega⟩
          rw [List.append_assoc]
          exact (List.Perm.append_left row (perm_er ht)).trans e2
theorem sc_sqd : FnScope ["hand", "row"] ["hand", "row"] (defScope s_sqd) := ⟨rfl, rfl, rfl, by decide +kernel, rfl, by decide +kernel, by decide +kernel⟩
def wSeqd : DW := fun ds Q _ => ∃ x xs t, ds = [.hnd, x] ∧ seqOfD x = some xs ∧ tupOfD x = some t ∧ Q (.new xs) ∧ Q (.dat t)
theorem ok_sqd {f : Addr} {fd : FuncData} (F : Fun K "_law_seq" "_law_seq" s_sqd f fd) (T : Bl mg) (c_law_draw : Cal P w K mg base CX0 "_law_draw" 2 (spD K wDraw)) : FnOk P w K mg base CX0 3 f fd ["hand", "row"] (spD K wSeqd) := by
  refine okD F sc_sqd (fun ds Q ex h => ?_) (fun cdv A outer s H E hr md F0 a0 => ⟨_, _,
      (dss_one (ds_ret (de_ifExp (dt_cmp (keqD K hr.units) opd_eq (de_call c_law_draw (hr.mono (by decide)) (by rfl) (da_cons (de_var (pv 0)) (da_cons de_int da_nil))) de_int (nomark _)) (de_callTy (klist_of K) cad_list (by rfl) T.n_list (by decide +kernel) (da_cons (de_var (pv 1)) da_nil)) (de_callTy (ktuple_of K) cad_tuple (by rfl) T.n_tuple (by decide +kernel) (da_cons (de_var (pv 1)) da_nil)))))
      , fun ds Q ex h => ?_⟩)
  · obtain ⟨_, _, _, rfl, _⟩ := h
    rfl
  · obtain ⟨x, xs, t, rfl, e1, e2, q1, q2⟩ := h
    walk_at "d"
    refine ⟨2, rfl, by decide, by decide, fun d d0 d1 => ?_⟩
    walk_at "d"
    rw [e1, e2]
    refine ⟨rfl, rfl, ?_⟩
    exact ite_b q1 q2
/-- told exactly what is due -/
def exB (a b : D) : Prop := match b with
  | .non => a = .non
  | .bl c => a = .bl c
  | .int i => a = .int i
  | .str x => a = .str x ∧ PyData.strOk x = true
  | _ => False
def exOk : Nat → D → D → Prop
  | 0, _, _ => False
  | n + 1, a, b => exB a b ∨ ∃ (xs ys : List D), (a = .tup xs ∨ a = .tpx xs) ∧ (b = .tup ys ∨ b = .tpx ys) ∧ xs.length = ys.length ∧ xs.length ≤ 1000 ∧ ∀ (i : Nat) (x y : D), xs[i]? = some x → ys[i]? = some y → exOk n x y
theorem exOk_s {n : Nat} {a b : D} : exOk (n + 1) a b = (exB a b ∨ ∃ (xs ys : List D), (a = .tup xs ∨ a = .tpx xs) ∧ (b = .tup ys ∨ b = .tpx ys) ∧ xs.length = ys.length ∧ xs.length ≤ 1000 ∧ ∀ (i : Nat) (x y : D), xs[i]? = some x → ys[i]? = some y → exOk n x y) := rfl
def wExact (n : Nat) : DW := fun ds Q _ => ∃ a b, ds = [a, b] ∧ exOk n a b ∧ Q (.dat (.bl true))
theorem sc_ex : FnScope ["told", "due", "k"] ["told", "due"] (defScope s_ex) := ⟨rfl, rfl, rfl, by decide +kernel, rfl, by decide +kernel, by decide +kernel⟩
theorem ok_ex {n k : Nat} {f : Addr} {fd : FuncData} (F : Fun K "_law_exact" "_law_exact" s_ex f fd) (T : Bl mg) (c_law_exact : Cal P w K mg base CX0 "_law_exact" k (spD K (wExact n))) : FnOk P w K mg base CX0 (k + 1) f fd ["told", "due"] (spD K (wExact (n + 1))) := by
  refine okD F sc_ex (fun ds Q ex h => ?_) (fun cdv A outer s H E hr md F0 a0 => ⟨_, _,
      (dss_cons (ds_if (dt_truth K (de_isi K .T (by rfl) T.n_isinstance (de_var (pv 1)) (pe_bltn (v := .ty "tuple") (u := .type "tuple") (by rfl) T.n_tuple (by decide +kernel) rfl)))
        (dss_cons (ds_if (DWs.ts (dw_or (dt_not (dt_truth K (de_isi K .T (by rfl) T.n_isinstance (de_var (pv 0)) (pe_bltn (v := .ty "tuple") (u := .type "tuple") (by rfl) T.n_tuple (by decide +kernel) rfl)))) (dw_or1 (dt_cmp (kneD K hr.units) opd_ne (de_callB (klen K) cad_len (by rfl) T.n_len PySem.boot_len (da_cons (de_var (pv 0)) da_nil)) (de_callB (klen K) cad_len (by rfl) T.n_len PySem.boot_len (da_cons (de_var (pv 1)) da_nil)) (nomark _)))))
          (dss_one (ds_ret de_bl))
          dss_nil)
        (dss_one (ds_ret (de_cmp (keqD K hr.units) opd_eq (de_lc (own := [("k", 2)]) rfl sc_ex.nd (di_range1 (by rfl) T.n_range (de_callB (klen K) cad_len (by rfl) T.n_len PySem.boot_len (da_cons (de_var (pv 1)) da_nil))) (blkOk_by (own := [("k", 2)]) (by show blkC ["told", "due", "k"] (defScope s_ex) _ _ = true; decide +kernel)) (fun _ _ _ _ _ _ _ _ => (dg_name (i := 2) sc_ex.nd rfl (Or.inl rfl))) (fun _ _ _ _ _ _ _ _ => (dps_one (dt_not (dt_truth K (de_call c_law_exact hr (by rfl) (da_cons (de_ix (kix_seq K) opd_ix (de_var (pv 0)) (de_var (pv 2)) (fun _ _ => rfl)) (da_cons (de_ix (kix_seq K) opd_ix (de_var (pv 1)) (de_var (pv 2)) (fun _ _ => rfl)) da_nil))))))) (fun _ _ _ _ _ _ _ _ => (de_var (pv 2))) (by decide) s) (de_lst da_nil) (nomark _)))))
        dss_nil)
      (dss_cons (ds_if (dt_cmp op_isN opd_isN (de_var (pv 1)) de_non (nomark _))
        (dss_one (ds_ret (de_cmp op_isN opd_isN (de_var (pv 0)) de_non (nomark _))))
        dss_nil)
      (dss_cons (ds_if (dt_truth K (de_isi K .B (by rfl) T.n_isinstance (de_var (pv 1)) (pe_bltn (v := .ty "bool") (u := .type "bool") (by rfl) T.n_bool (by decide +kernel) rfl)))
        (dss_one (ds_ret (de_ifExp (dt_truth K (de_var (pv 1))) (de_cmp op_is_bl opd_isB (de_var (pv 0)) de_bl (nomark _)) (de_cmp op_is_bl opd_isB (de_var (pv 0)) de_bl (nomark _)))))
        dss_nil)
      (dss_cons (ds_if (dt_truth K (de_isi K .S (by rfl) T.n_isinstance (de_var (pv 1)) (pe_bltn (v := .ty "str") (u := .type "str") (by rfl) T.n_str (by decide +kernel) rfl)))
        (dss_one (ds_ret (de_and (de_isi K .S (by rfl) T.n_isinstance (de_var (pv 0)) (pe_bltn (v := .ty "str") (u := .type "str") (by rfl) T.n_str (by decide +kernel) rfl)) (de_one (de_cmp (keqD K hr.units) opd_eq (de_var (pv 0)) (de_var (pv 1)) (nomark _))))))
        dss_nil)
      (dss_one (ds_ret (de_and (de_isi K .I (by rfl) T.n_isinstance (de_var (pv 0)) (pe_bltn (v := .ty "int") (u := .type "int") (by rfl) T.n_int (by decide +kernel) rfl)) (de_and (de_notT K (de_isi K .B (by rfl) T.n_isinstance (de_var (pv 0)) (pe_bltn (v := .ty "bool") (u := .type "bool") (by rfl) T.n_bool (by decide +kernel) rfl))) (de_one (de_cmp (keqD K hr.units) opd_eq (de_var (pv 0)) (de_var (pv 1)) (nomark _)))))))))))
      , fun ds Q ex h => ?_⟩)
  · obtain ⟨_, _, rfl, _⟩ := h
    rfl
  · obtain ⟨a, b, rfl, e, q⟩ := h
    rw [exOk_s] at e
    rcases e with e | ⟨xs, ys, ha, hb, hl, hz, he⟩
    · cases b <;> first | exact e.elim | skip
      · obtain rfl : a = .non := e
        walk_at "d"
        exact q
      · rename_i c
        obtain rfl : a = .bl c := e
        cases c <;> (walk_at "d"; exact q)
      · rename_i i
        obtain rfl : a = .int i := e
        walk_at "d"
        refine ⟨rfl, ?_⟩
        have : eqD (.int i) (.int i) = true := by show (i == i) = true; simp
        rw [this]
        exact ⟨rfl, q⟩
      · rename_i x
        obtain ⟨rfl, ok⟩ := (show a = .str x ∧ PyData.strOk x = true from e)
        walk_at "d"
        have sh : shp (.str x) = true := by
          show (true && (PyData.strOk x && true)) = true
          rw [ok]
          rfl
        have : eqD (.str x) (.str x) = true := by show (x == x) = true; simp
        rw [this]
        exact ⟨sh, sh, q⟩
    · have pa : plainD a = true ∧ isT5 .T a = true ∧ seqOfD a = some xs := by rcases ha with rfl | rfl <;> exact ⟨rfl, rfl, rfl⟩
      have pb : plainD b = true ∧ isT5 .T b = true ∧ seqOfD b = some ys := by rcases hb with rfl | rfl <;> exact ⟨rfl, rfl, rfl⟩
      walk_at "d"
      rw [pa.1, pa.2.1, pa.2.2, pb.1, pb.2.1, pb.2.2]
      have e0 : eqD (.int xs.length) (.int ys.length) = true := by show ((xs.length : Int) == (ys.length : Int)) = true; rw [hl]; simp
      walk_at "d"
      refine ⟨rfl, rfl, ite_f (by rw [e0]; decide) ⟨by unfold R62; omega, by unfold R62; omega, ?_⟩⟩
      rw [rgD_I]
      refine dLc_ints (fun _ => false) (fun _ => .non) (by rw [rgI_len]; omega) (fun i _ z => by cases z) (fun i hi Z0 C0 _ w2 => ?_) ?_
      · have hm := rgI_mem.mp hi
        obtain ⟨j, rfl⟩ : ∃ j : Nat, i = j := ⟨i.toNat, by omega⟩
        have h1 : j < xs.length := by omega
        have h2 : j < ys.length := by omega
        walk_at "d"
        rw [pa.2.2, pb.2.2]
        refine ⟨xs[j], by rw [atI_nat, List.getElem?_eq_getElem h1], ys[j], by rw [atI_nat, List.getElem?_eq_getElem h2], _, _, rfl, he j _ _ (List.getElem?_eq_getElem h1) (List.getElem?_eq_getElem h2), ?_⟩
        walk_at "d"
        exact w2 rfl
      · have hnil : ((rgI 0 ys.length).filter fun _ => false) = [] := by simp
        rw [hnil]
        exact ⟨Nat.zero_le _, rfl, rfl, q⟩
/-- any number of levels -/
theorem ok_exN {f : Addr} {fd : FuncData} (F : Fun K "_law_exact" "_law_exact" s_ex f fd) (T : Bl mg) (hm : mg "_law_exact" = some (.ref f)) (hk : PySem.W.keepIn K (.ref f) = true) (hb : Binds K fd ["told", "due"] []) : ∀ n, FnOk P w K mg base CX0 n f fd ["told", "due"] (spD K (wExact n))
  | 0 => ⟨fun vs H Q E h => by obtain ⟨_, _, _, _, _, _, _, _, ⟨_, _, _, z, _⟩, _⟩ := h; exact z.elim, fun A outer s H args us vs Q E _ _ _ _ h => by obtain ⟨_, _, _, _, _, _, _, _, ⟨_, _, _, z, _⟩, _⟩ := h; exact z.elim⟩
  | n + 1 => ok_ex F T ⟨f, fd, _, hm, hk, hb, ok_exN F T hm hk hb n⟩
end
end Z

set_option Elab.async false
set_option linter.all false
set_option maxRecDepth 100000
namespace Z
open PySem L2
local macro_rules | `(tactic| walk_at "d") => `(tactic| simp only [dSq, dIf, dOr, dAnd, dNot, dTT, dTB, dUn, dBin, dVar, dC, dRet, dNext, dOrV, dAndV, dNotT, dIfE, isiD, OV.isOwn, startD, List.map_cons, List.map_nil, List.cons_append, List.nil_append, List.append_nil, List.length_cons, List.length_nil, List.replicate, Nat.reduceAdd, Nat.reduceSub, Nat.sub_self, Nat.add_sub_cancel,
  List.getElem?_cons_zero, List.getElem?_cons_succ, bOk, iv_d, iv_n, iv_v, nr_d, nr_n, List.any_cons, List.any_nil, Bool.or_false, Bool.or_true, Bool.false_eq_true, Bool.not_true, Bool.not_false, false_implies, true_and, and_true, if_true, if_false, ite_true, ite_false, forall_const, reduceIte, reduceCtorEq,
  d0_1, dI_1, ad_i, ad_t, ad_l, ng_1, dCa, dCons, dNil, dTup, dLst, dEq, dSeq, dRange, dEnum, dRg1, dRg2, dListRg, dTupRg, dSl, dONone, dOSome, dCall, mv_d, mv_n, mv_v, nn_n, nn_b, nn_i, nn_s, nn_l, nn_t, nn_x, nn_d, dSetF, dSetO, dDrop, dFor, dgName, dgTup, dgCons, dgNil, dRetN, dYes, it_1, pm_1, nmR, dXf, dIsE, sq_l, sq_t, sq_x, tr_n, tr_b, tr_i, tr_l, tr_t, tr_x, tr_d, vl_d, vl_n, vl_v, fr_d, fr_o, fr_k, sl_l, sl_t, sl_x, le_1, li_1, tu_1, tu_l, tu_t, tu_x, tx_1, tx_l, tx_t, tx_x, rr_d, rr_n, rr_v, in_1, ix_1, dt_1, isB_1, dCallT, dIdx, dRaise, dAsg, dDnew, List.set_cons_zero, List.set_cons_succ, noOwnAt, List.all_cons, List.all_nil, wipeE, lent, hasOwn, Option.map_some, Option.map_none, dLc, lt_n, pl_n, tyB_n, tyI_n, tyS_n, tyL_n, tyT_n, lt_b, pl_b, tyB_b, tyI_b, tyS_b, tyL_b, tyT_b, lt_i, pl_i, tyB_i, tyI_i, tyS_i, tyL_i, tyT_i, lt_s, pl_s, tyB_s, tyI_s, tyS_s, tyL_s, tyT_s, lt_l, pl_l, tyB_l, tyI_l, tyS_l, tyL_l, tyT_l, lt_t, pl_t, tyB_t, tyI_t, tyS_t, tyL_t, tyT_t, lt_x, pl_x, tyB_x, tyI_x, tyS_x, tyL_x, tyT_x, lt_d, pl_d, tyB_d, tyI_d, tyS_d, tyL_d, tyT_d, noL, noLA, Bool.and_true, Bool.true_and])
local macro_rules | `(tactic| walk_at "e") => `(tactic| first | exact ⟨_, rfl, rfl⟩ | rfl)
abbrev s_cf : Stmt := top 16
abbrev s_call : Stmt := top 17
abbrev s_rp : Stmt := top 18
section
variable {P : Program} {w : World} {K : PySem.W.Frag} {mg : Str → Option Value} {base : Heap}
abbrev prm (a b : Int) : Int := PySem.W.mcPerm a b
def allI (m : Int) : Int := ((rgI 0 (m + 1)).map (prm m)).sum
theorem sc_cf : FnScope ["m", "d"] ["m", "d"] (defScope s_cf) := ⟨rfl, rfl, rfl, by decide +kernel, rfl, by decide +kernel, by decide +kernel⟩
def wFall (cc : Addr) : DW := fun ds Q ex => ∃ a b, ds = [a, b] ∧ plainD a = true ∧ plainD b = true ∧ (wholeD a (some 0) (some 24) = false ∨ wholeD b (some 0) (some 24) = false → ex cc [("most", .int 24)]) ∧ ∀ m d, a = .int m → b = .int d → 0 ≤ m → m ≤ 24 → 0 ≤ d → d ≤ 24 → Q (.dat (.int (prm m d)))
theorem ok_cf {cc f : Addr} {fd : FuncData} (F : Fun K "count_falling" "count_falling" s_cf f fd) (T : Bl mg) (gperm : mg "perm" = some (.builtin "math.perm")) (dcheck_count_1 : CalV P w K mg base (L2.CX P w) "check_count" 3 (spD K (wCount cc)) [.int 24]) :
    FnOk P w K mg base (L2.CX P w) 4 f fd ["m", "d"] (spD K (wFall cc)) := by
  refine okDX F sc_cf (fun ds Q ex h => ?_) (fun cdv A outer s H E hr md F0 a0 ex hl => ⟨_, _,
      (dss_one (ds_ret (de_callBf call_perm cad_perm (by rfl) gperm (da_cons (de_callT dcheck_count_1 (hr.mono (by decide)) (by rfl) (takes_of rfl rfl rfl rfl) (lxt_fn hl) (fun _ => (.cons (.int 24) .nil)) (da_cons (de_var (pv 0)) da_nil)) (da_cons (de_callT dcheck_count_1 (hr.mono (by decide)) (by rfl) (takes_of rfl rfl rfl rfl) (lxt_fn hl) (fun _ => (.cons (.int 24) .nil)) (da_cons (de_var (pv 1)) da_nil)) da_nil)))))
      , fun ds Q h => ?_⟩)
  · obtain ⟨_, _, rfl, _⟩ := h
    rfl
  · obtain ⟨a, b, rfl, pa, pb, h1, h2⟩ := h
    walk_at "d"
    refine ⟨a, 24, rfl, pa, fun ea => ?_, fun ea => h1 (.inl ea)⟩
    refine ⟨b, 24, rfl, pb, fun eb => ?_, fun eb => h1 (.inr eb)⟩
    obtain ⟨m, rfl, m0, m1⟩ := whole_int ea
    obtain ⟨d, rfl, d0, d1⟩ := whole_int eb
    walk_at "d"
    exact ⟨m0, d0, by omega, by omega, h2 m d rfl rfl m0 m1 d0 d1⟩
theorem sc_call : FnScope ["m", "d"] ["m"] (defScope s_call) := ⟨rfl, rfl, rfl, by decide +kernel, rfl, by decide +kernel, by decide +kernel⟩
def wAll (cc : Addr) : DW := fun ds Q ex => ∃ a, ds = [a] ∧ plainD a = true ∧ (wholeD a (some 0) (some 24) = false → ex cc [("most", .int 24)]) ∧ ∀ m, a = .int m → 0 ≤ m → m ≤ 24 → Q (.dat (.int (allI m)))
theorem ok_call {cc f : Addr} {fd : FuncData} (F : Fun K "count_all_rows" "count_all_rows" s_call f fd) (T : Bl mg) (nsum : mg "sum" = none) (gperm : mg "perm" = some (.builtin "math.perm")) (dcheck_count_1 : CalV P w K mg base (L2.CX P w) "check_count" 3 (spD K (wCount cc)) [.int 24]) :
    FnOk P w K mg base (L2.CX P w) 4 f fd ["m"] (spD K (wAll cc)) := by
  refine okDX F sc_call (fun ds Q ex h => ?_) (fun cdv A outer s H E hr md F0 a0 ex hl => ⟨_, _,
      (dss_cons (ds_expr (de_callT dcheck_count_1 (hr.mono (by decide)) (by rfl) (takes_of rfl rfl rfl rfl) (lxt_fn hl) (fun _ => (.cons (.int 24) .nil)) (da_cons (de_var (pv 0)) da_nil)))
      (dss_one (ds_ret (de_callB (ksum K rfl) cad_sum (by rfl) nsum (by decide +kernel) (da_cons (de_lc (own := [("d", 1)]) rfl sc_call.nd (di_range1 (by rfl) T.n_range (de_op (op_addA K) opd_add (de_var (pv 0)) de_int)) (blkOk_by (own := [("d", 1)]) (by show blkC ["m", "d"] (defScope s_call) _ _ = true; decide +kernel)) (fun _ _ _ _ _ _ _ _ => (dg_name (i := 1) sc_call.nd rfl (Or.inl rfl))) (fun _ _ _ _ _ _ _ _ => dps_nil) (fun _ _ _ _ _ _ _ _ => (de_callBf call_perm cad_perm (by rfl) gperm (da_cons (de_var (pv 0)) (da_cons (de_var (pv 1)) da_nil)))) (by decide) s) da_nil)))))
      , fun ds Q h => ?_⟩)
  · obtain ⟨_, rfl, _⟩ := h
    rfl
  · obtain ⟨a, rfl, pa, h1, h2⟩ := h
    walk_at "d"
    refine ⟨a, 24, rfl, pa, fun ea => ?_, h1⟩
    obtain ⟨m, rfl, m0, m1⟩ := whole_int ea
    walk_at "d"
    rw [rgD_I]
    refine ⟨by unfold R62; omega, by unfold R62; omega, dLc_ints (fun _ => true) (fun d => .int (prm m d)) (by rw [rgI_len]; omega) (fun i _ z => by cases z) (fun i hi Z0 C0 w1 _ => ?_) ?_⟩
    · have hm := rgI_mem.mp hi
      walk_at "d"
      exact ⟨m0, by omega, by omega, by omega, w1 rfl _ _ rfl rfl⟩
    · rw [List.filter_eq_self.mpr (by simp)]
      exact ⟨(rgI 0 (m + 1)).map (prm m), by rw [List.map_map]; rfl, h2 m rfl m0 m1⟩
theorem perm_er0 {α : Type} : ∀ {l : List α} {d : Nat} (h : d < l.length), (l[d] :: l.eraseIdx d).Perm l
  | x :: l, 0, _ => .refl _
  | x :: l, d + 1, h => (List.Perm.swap _ _ _).trans ((perm_er0 (l := l) (d := d) (by simpa using h)).cons x)
theorem sc_rp : FnScope ["m", "row", "left", "place", "at", "frame"] ["m", "row"] (defScope s_rp) := ⟨rfl, rfl, rfl, by decide +kernel, rfl, by decide +kernel, by decide +kernel⟩
def placeL : List Int → List Int → Int
  | _, [] => 0
  | left, i :: is => (left.idxOf i : Int) * prm ((left.length : Int) - 1) is.length + placeL (left.eraseIdx (left.idxOf i)) is
def wPlace (cc cr : Addr) : DW := fun ds Q ex => ∃ d row, ds = [d, row] ∧ plainD d = true ∧ plainA row ∧ rowEx cc cr d row ex ∧
  ∀ n is, d = .int n → 0 ≤ n → n ≤ 24 → faultRow (rgI 0 n) row = .non → seqOfD row = some (is.map D.int) → Q (.dat (.int (placeL (rgI 0 n) is)))
theorem ok_rp {cc cr f : Addr} {fd : FuncData} (F : Fun K "row_place" "row_place" s_rp f fd) (T : Bl mg) (gperm : mg "perm" = some (.builtin "math.perm")) (ccheck_row : Cal P w K mg base (L2.CX P w) "check_row" 4 (spD K (wCheckRow cc cr))) :
    FnOk P w K mg base (L2.CX P w) 5 f fd ["m", "row"] (spD K (wPlace cc cr)) := by
  refine okDX F sc_rp (fun ds Q ex h => ?_) (fun cdv A outer s H E hr md F0 a0 ex hl => ⟨_, _,
      (dss_cons (ds_setF (i := 1) sc_rp.nd rfl (Or.inl rfl) (de_callT ccheck_row.v (hr.mono (by decide)) (by rfl) (takes_of rfl rfl rfl rfl) (lxt_fn hl) (fun _ => .nil) (da_cons (de_var (pv 0)) (da_cons (de_var (pv 1)) da_nil))))
      (dss_cons (ds_setO (i := 2) sc_rp.nd rfl (Or.inl rfl) (de_listRg rfl (by rfl) T.n_list (drg_1 (by rfl) T.n_range (de_var (pv 0)))))
      (dss_cons (ds_setF (i := 3) sc_rp.nd rfl (Or.inl rfl) de_int)
      (dss_cons (ds_for (passes_of rfl) rfl (di_enum K (by rfl) T.n_enumerate (de_var (pv 1))) (dg_tup K (n := 2) rfl (dgs_cons (dg_name (i := 4) sc_rp.nd rfl (Or.inl rfl)) (dgs_cons (dg_name (i := 5) sc_rp.nd rfl (Or.inl rfl)) dgs_nil)))
        (dss_cons (ds_augI (i := 3) sc_rp.nd rfl (Or.inl rfl) ip_add (de_op op_mul opd_I (de_index K (de_var (pv 2)) (de_var (pv 5))) (de_callBf call_perm cad_perm (by rfl) gperm (da_cons (de_op op_sub opd_I0 (de_op op_sub opd_I0 (de_var (pv 0)) (de_var (pv 4))) de_int) (da_cons (de_op op_sub opd_I0 (de_op op_sub opd_I0 (de_callB (klen K) cad_len (by rfl) T.n_len PySem.boot_len (da_cons (de_var (pv 1)) da_nil)) (de_var (pv 4))) de_int) da_nil)))))
        (dss_one (ds_expr (de_remove (pv 2) (de_var (pv 5)))))))
      (dss_one (ds_ret (de_var (pv 3))))))))
      , fun ds Q h => ?_⟩)
  · obtain ⟨_, _, rfl, _⟩ := h
    rfl
  · obtain ⟨d, row, rfl, pd, pr, h1, h3⟩ := h
    refine sq_go fun S hS => ?_
    walk_at "d"
    refine ⟨d, row, rfl, pd, pr, h1, fun n is en l1 l2 ef ei t ht => ?_⟩
    subst en
    have q := h3 n is rfl l1 l2 ef ei
    walk_at "d"
    refine hS _ ?_
    clear hS S
    walk_at "d"
    refine ⟨RgOk.of_le (by omega) (by omega) (by omega) l1, enum_go ht.seq ?_⟩
    obtain ⟨js, ej, mi⟩ := fault_none ef
    have nd := fault_nodup ef ei
    rw [ei] at ej
    cases ints_inj (Option.some.inj ej)
    have hil : is.length ≤ 24 := nodup_len nd fun i hi => by have := rgI_mem.mp (mi i hi); omega
    rw [enD_eq, rgD_I]
    have r0 : (rgI 0 n).length = n.toNat := by rw [rgI_len]; omega
    refine dFor_ind (fun es ρ => ∃ (k : Nat) (rest left : List Int) (acc : Int) (a b : Option OV), es = enF k (rest.map D.int) ∧ k + rest.length = is.length ∧ left.length + k = n.toNat ∧ ρ = [some (OV.dat (.int n)), some (OV.dat t), some (OV.own (left.map D.int)), some (OV.dat (.int acc)), a, b] ∧
      rest.Nodup ∧ (∀ i ∈ rest, i ∈ left) ∧ left.Nodup ∧ acc + placeL left rest = placeL (rgI 0 n) is) ?_ ?_ _ _ ⟨0, is, rgI 0 n, 0, _, _, rfl, by omega, by omega, rfl, nd, mi, rgI_nodup 0 n, by omega⟩
    · rintro ρ ⟨k, rest, left, acc, a, b, e1, _, _, rfl, _, _, _, e2⟩
      cases rest with
      | cons _ _ => cases e1
      | nil =>
        rw [← e2] at q
        have e3 : acc + placeL left [] = acc := by show acc + 0 = acc; omega
        rw [e3] at q
        exact q
    · rintro x es C ρ ⟨k, rest, left, acc, a, b, e1, hk, hlen, rfl, ndr, hin, ndl, e2⟩ hC
      cases rest with
      | nil => cases e1
      | cons i rest =>
        cases e1
        rw [List.length_cons] at hk
        rw [List.nodup_cons] at ndr
        have hi := hin i List.mem_cons_self
        have hix : left.idxOf i < left.length := List.idxOf_lt_length_of_mem hi
        refine ⟨rfl, ?_⟩
        simp only [dgCons, dgName, dgNil, List.set_cons_zero, List.set_cons_succ]
        refine sq_go fun S2 hS2 => ?_
        unfold dAugI
        walk_at "d"
        refine ⟨acc, rfl, .inl ⟨_, rfl, _, _, rfl, idx_ints hi, ?_⟩⟩
        rw [ht.seq]
        simp only [List.length_map]
        have eA : n - (k : Int) - 1 = (left.length : Int) - 1 := by omega
        have eB : (is.length : Int) - (k : Int) - 1 = rest.length := by omega
        rw [eA, eB]
        refine ⟨by omega, by omega, by omega, by omega, .inl ⟨by omega, by omega⟩, _, rfl, hS2 _ ?_⟩
        unfold dDrop dRem isOwnL ownAt
        walk_at "d"
        refine ⟨left, i, left.idxOf i, rfl, rfl, by rw [List.getElem?_eq_getElem hix, List.getElem_idxOf], fun m hm z => ?_, ?_⟩
        · have := List.idxOf_le_of_getElem? left m i z
          omega
        · refine hC _ ⟨k + 1, rest, left.eraseIdx (left.idxOf i), _, _, _, rfl, by omega, ?_, rfl, ndr.2, fun j hj => ?_, ?_, ?_⟩
          · rw [List.length_eraseIdx_of_lt hix]
            omega
          · have hne : j ≠ i := fun z => ndr.1 (by rw [← z]; exact hj)
            have h1 := hin j (List.mem_cons_of_mem _ hj)
            have hp : (left[left.idxOf i] :: left.eraseIdx (left.idxOf i)).Perm left := perm_er0 hix
            have h2 := hp.mem_iff.mpr h1
            rw [List.getElem_idxOf] at h2
            rcases List.mem_cons.mp h2 with h2 | h2
            · exact absurd h2 hne
            · exact h2
          · exact ndl.sublist (List.eraseIdx_sublist _ _)
          · rw [← e2]
            exact Int.add_assoc _ _ _
end
end Z

set_option Elab.async false
set_option linter.all false
set_option maxRecDepth 100000
namespace Z
open PySem L2
local macro_rules | `(tactic| walk_at "d") => `(tactic| simp only [dSq, dIf, dOr, dAnd, dNot, dTT, dTB, dUn, dBin, dVar, dC, dRet, dNext, dOrV, dAndV, dNotT, dIfE, isiD, OV.isOwn, startD, List.map_cons, List.map_nil, List.cons_append, List.nil_append, List.append_nil, List.length_cons, List.length_nil, List.replicate, Nat.reduceAdd, Nat.reduceSub, Nat.sub_self, Nat.add_sub_cancel,
  List.getElem?_cons_zero, List.getElem?_cons_succ, bOk, iv_d, iv_n, iv_v, nr_d, nr_n, List.any_cons, List.any_nil, Bool.or_false, Bool.or_true, Bool.false_eq_true, Bool.not_true, Bool.not_false, false_implies, true_and, and_true, if_true, if_false, ite_true, ite_false, forall_const, reduceIte, reduceCtorEq,
  d0_1, dI_1, ad_i, ad_t, ad_l, ng_1, dCa, dCons, dNil, dTup, dLst, dEq, dSeq, dRange, dEnum, dRg1, dRg2, dListRg, dTupRg, dSl, dONone, dOSome, dCall, mv_d, mv_n, mv_v, nn_n, nn_b, nn_i, nn_s, nn_l, nn_t, nn_x, nn_d, dSetF, dSetO, dDrop, dFor, dgName, dgTup, dgCons, dgNil, dRetN, dYes, it_1, pm_1, nmR, dXf, dIsE, sq_l, sq_t, sq_x, tr_n, tr_b, tr_i, tr_l, tr_t, tr_x, tr_d, vl_d, vl_n, vl_v, fr_d, fr_o, fr_k, sl_l, sl_t, sl_x, le_1, li_1, tu_1, tu_l, tu_t, tu_x, tx_1, tx_l, tx_t, tx_x, rr_d, rr_n, rr_v, in_1, ix_1, dt_1, isB_1, dCallT, dIdx, dRaise, dAsg, dDnew, List.set_cons_zero, List.set_cons_succ, noOwnAt, List.all_cons, List.all_nil, wipeE, lent, hasOwn, Option.map_some, Option.map_none, dLc, lt_n, pl_n, tyB_n, tyI_n, tyS_n, tyL_n, tyT_n, lt_b, pl_b, tyB_b, tyI_b, tyS_b, tyL_b, tyT_b, lt_i, pl_i, tyB_i, tyI_i, tyS_i, tyL_i, tyT_i, lt_s, pl_s, tyB_s, tyI_s, tyS_s, tyL_s, tyT_s, lt_l, pl_l, tyB_l, tyI_l, tyS_l, tyL_l, tyT_l, lt_t, pl_t, tyB_t, tyI_t, tyS_t, tyL_t, tyT_t, lt_x, pl_x, tyB_x, tyI_x, tyS_x, tyL_x, tyT_x, lt_d, pl_d, tyB_d, tyI_d, tyS_d, tyL_d, tyT_d, noL, noLA, Bool.and_true, Bool.true_and])
local macro_rules | `(tactic| walk_at "e") => `(tactic| first | exact ⟨_, rfl, rfl⟩ | rfl)
abbrev s_rn : Stmt := top 20
section
variable {P : Program} {w : World} {K : PySem.W.Frag} {mg : Str → Option Value} {base : Heap}
theorem sc_rn : FnScope ["m", "row", "place", "d"] ["m", "row"] (defScope s_rn) := ⟨rfl, rfl, rfl, by decide +kernel, rfl, by decide +kernel, by decide +kernel⟩
def shorterI (m : Int) (d : Nat) : Int := ((rgI 0 d).map (prm m)).sum
def wNumber (cc cr : Addr) : DW := fun ds Q ex => ∃ d row, ds = [d, row] ∧ plainD d = true ∧ plainA row ∧ rowEx cc cr d row ex ∧
  ∀ n is, d = .int n → 0 ≤ n → n ≤ 24 → faultRow (rgI 0 n) row = .non → seqOfD row = some (is.map D.int) → Q (.dat (.int (placeL (rgI 0 n) is + shorterI n is.length)))
theorem ok_rn {cc cr f : Addr} {fd : FuncData} (F : Fun K "row_number" "row_number" s_rn f fd) (T : Bl mg) (nsum : mg "sum" = none) (gperm : mg "perm" = some (.builtin "math.perm")) (crow_place : Cal P w K mg base (L2.CX P w) "row_place" 5 (spD K (wPlace cc cr))) :
    FnOk P w K mg base (L2.CX P w) 6 f fd ["m", "row"] (spD K (wNumber cc cr)) := by
  refine okDX F sc_rn (fun ds Q ex h => ?_) (fun cdv A outer s H E hr md F0 a0 ex hl => ⟨_, _,
      (dss_cons (ds_setF (i := 2) sc_rn.nd rfl (Or.inl rfl) (de_callT crow_place.v (hr.mono (by decide)) (by rfl) (takes_of rfl rfl rfl rfl) (lxt_fn hl) (fun _ => .nil) (da_cons (de_var (pv 0)) (da_cons (de_var (pv 1)) da_nil))))
      (dss_one (ds_ret (de_op (op_addA K) opd_add (de_var (pv 2)) (de_callB (ksum K rfl) cad_sum (by rfl) nsum (by decide +kernel) (da_cons (de_lc (own := [("d", 3)]) rfl sc_rn.nd (di_range1 (by rfl) T.n_range (de_callB (klen K) cad_len (by rfl) T.n_len PySem.boot_len (da_cons (de_var (pv 1)) da_nil))) (blkOk_by (own := [("d", 3)]) (by show blkC ["m", "row", "place", "d"] (defScope s_rn) _ _ = true; decide +kernel)) (fun _ _ _ _ _ _ _ _ => (dg_name (i := 3) sc_rn.nd rfl (Or.inl rfl))) (fun _ _ _ _ _ _ _ _ => dps_nil) (fun _ _ _ _ _ _ _ _ => (de_callBf call_perm cad_perm (by rfl) gperm (da_cons (de_var (pv 0)) (da_cons (de_var (pv 3)) da_nil)))) (by decide) s) da_nil))))))
      , fun ds Q h => ?_⟩)
  · obtain ⟨_, _, rfl, _⟩ := h
    rfl
  · obtain ⟨d, row, rfl, pd, pr, h1, h3⟩ := h
    refine sq_go fun S hS => ?_
    walk_at "d"
    refine ⟨d, row, rfl, pd, pr, h1, fun n is en l1 l2 ef ei => ?_⟩
    subst en
    have q := h3 n is rfl l1 l2 ef ei
    have hil : is.length ≤ 24 := nodup_len (fault_nodup ef ei) fun i hi => by
      obtain ⟨js, ej, mi⟩ := fault_none ef
      rw [ei] at ej
      cases ints_inj (Option.some.inj ej)
      have := rgI_mem.mp (mi i hi)
      omega
    walk_at "d"
    refine hS _ ?_
    clear hS S
    walk_at "d"
    rw [ei]
    simp only [List.length_map]
    rw [rgD_I]
    refine ⟨by unfold R62; omega, by unfold R62; omega, dLc_ints (fun _ => true) (fun d => .int (prm n d)) (by rw [rgI_len]; omega) (fun i _ z => by cases z) (fun i hi Z0 C0 w1 _ => ?_) ?_⟩
    · have hm := rgI_mem.mp hi
      walk_at "d"
      exact ⟨l1, by omega, by omega, by omega, w1 rfl _ _ rfl rfl⟩
    · rw [List.filter_eq_self.mpr (by simp)]
      exact ⟨(rgI 0 is.length).map (prm n), by rw [List.map_map]; rfl, (fun z => by cases z), q⟩
end
end Z

set_option Elab.async false
set_option linter.all false
set_option maxRecDepth 100000
namespace Z
open PySem L2
local macro_rules | `(tactic| walk_at "d") => `(tactic| simp only [dSq, dIf, dOr, dAnd, dNot, dTT, dTB, dUn, dBin, dVar, dC, dRet, dNext, dOrV, dAndV, dNotT, dIfE, isiD, OV.isOwn, startD, List.map_cons, List.map_nil, List.cons_append, List.nil_append, List.append_nil, List.length_cons, List.length_nil, List.replicate, Nat.reduceAdd, Nat.reduceSub, Nat.sub_self, Nat.add_sub_cancel,
  List.getElem?_cons_zero, List.getElem?_cons_succ, bOk, iv_d, iv_n, iv_v, nr_d, nr_n, List.any_cons, List.any_nil, Bool.or_false, Bool.or_true, Bool.false_eq_true, Bool.not_true, Bool.not_false, false_implies, true_and, and_true, if_true, if_false, ite_true, ite_false, forall_const, reduceIte, reduceCtorEq,
  d0_1, dI_1, ad_i, ad_t, ad_l, ng_1, dCa, dCons, dNil, dTup, dLst, dEq, dSeq, dRange, dEnum, dRg1, dRg2, dListRg, dTupRg, dSl, dONone, dOSome, dCall, mv_d, mv_n, mv_v, nn_n, nn_b, nn_i, nn_s, nn_l, nn_t, nn_x, nn_d, dSetF, dSetO, dDrop, dFor, dgName, dgTup, dgCons, dgNil, dRetN, dYes, it_1, pm_1, nmR, dXf, dIsE, sq_l, sq_t, sq_x, tr_n, tr_b, tr_i, tr_l, tr_t, tr_x, tr_d, vl_d, vl_n, vl_v, fr_d, fr_o, fr_k, sl_l, sl_t, sl_x, le_1, li_1, tu_1, tu_l, tu_t, tu_x, tx_1, tx_l, tx_t, tx_x, rr_d, rr_n, rr_v, in_1, ix_1, dt_1, isB_1, dCallT, dIdx, dRaise, dAsg, dDnew, List.set_cons_zero, List.set_cons_succ, noOwnAt, List.all_cons, List.all_nil, wipeE, lent, hasOwn, Option.map_some, Option.map_none, dLc, lt_n, pl_n, tyB_n, tyI_n, tyS_n, tyL_n, tyT_n, lt_b, pl_b, tyB_b, tyI_b, tyS_b, tyL_b, tyT_b, lt_i, pl_i, tyB_i, tyI_i, tyS_i, tyL_i, tyT_i, lt_s, pl_s, tyB_s, tyI_s, tyS_s, tyL_s, tyT_s, lt_l, pl_l, tyB_l, tyI_l, tyS_l, tyL_l, tyT_l, lt_t, pl_t, tyB_t, tyI_t, tyS_t, tyL_t, tyT_t, lt_x, pl_x, tyB_x, tyI_x, tyS_x, tyL_x, tyT_x, lt_d, pl_d, tyB_d, tyI_d, tyS_d, tyL_d, tyT_d, noL, noLA, Bool.and_true, Bool.true_and])
local macro_rules | `(tactic| walk_at "e") => `(tactic| first | exact ⟨_, rfl, rfl⟩ | rfl)
abbrev s_ra : Stmt := top 19
theorem fp_left (n : Int) : ∀ k : Nat, Builtin.Math.fallingProduct n (k + 1) = n * Builtin.Math.fallingProduct (n - 1) k
  | 0 => by rw [PySem.W.mc_fp_one, PySem.W.mc_fp_zero, Int.mul_one]
  | k + 1 => by
    rw [PySem.W.mc_fp_succ, fp_left n k, PySem.W.mc_fp_succ, Int.mul_assoc]
    congr 2
    omega
theorem prm_left {n : Int} {k : Nat} (h : (k : Int) + 1 ≤ n) : prm n ((k + 1 : Nat) : Int) = n * prm (n - 1) k := by
  show PySem.W.mcPerm n ((k + 1 : Nat) : Int) = n * PySem.W.mcPerm (n - 1) k
  rw [PySem.W.mcPerm_at (by omega), PySem.W.mcPerm_at (by omega), Int.toNat_natCast, Int.toNat_natCast, fp_left]
theorem prm_pos {n : Int} {k : Nat} (h : (k : Int) ≤ n) : 1 ≤ prm n k := PySem.W.mcPerm_pos (by omega) h
theorem prm_log {n : Int} {k : Nat} (h : (k : Int) ≤ n) (hn : n < 2 ^ 64) (hk : k ≤ 100) : (prm n k).natAbs.log2 < 9000 := by
  have e : prm n k = Builtin.Math.fallingProduct n k := by
    show PySem.W.mcPerm n k = _
    rw [PySem.W.mcPerm_at h, Int.toNat_natCast]
  rw [e]
  have h1 := PySem.W.mc_fp_abs (n := n) (by omega) hn k h
  have h2 : (Builtin.Math.fallingProduct n k).natAbs < 2 ^ (64 * k + 1) := Nat.lt_of_le_of_lt h1 (Nat.pow_lt_pow_right (by omega) (by omega))
  have h3 := PySem.Flt.log2_lt_of (by omega : 0 < 64 * k + 1) h2
  omega
/-- the row at a place -/
def unplace : List Int → Nat → Int → List Int
  | _, 0, _ => []
  | left, d + 1, pl => left.getD (pl / prm ((left.length : Int) - 1) d).toNat 0 :: unplace (left.eraseIdx (pl / prm ((left.length : Int) - 1) d).toNat) d (pl % prm ((left.length : Int) - 1) d)
section
variable {P : Program} {w : World} {K : PySem.W.Frag} {mg : Str → Option Value} {base : Heap}
theorem rgI_cons {k n : Nat} (h : k < n) : rgI k n = (k : Int) :: rgI ((k + 1 : Nat) : Int) n := by
  unfold rgI
  rw [show ((n : Int) - k).toNat = ((n : Int) - ((k + 1 : Nat) : Int)).toNat + 1 by omega, List.range_succ_eq_map, List.map_cons, List.map_map]
  refine congr (congrArg List.cons (by simp)) (List.map_congr_left fun i _ => ?_)
  show (k : Int) + ((i + 1 : Nat) : Int) = ((k + 1 : Nat) : Int) + (i : Nat)
  omega
theorem rgI_nil {k n : Nat} (h : n ≤ k) : rgI k n = [] := by
  unfold rgI
  rw [show ((n : Int) - k).toNat = 0 by omega]
  rfl
theorem sc_ra : FnScope ["m", "d", "place", "left", "row", "at", "behind"] ["m", "d", "place"] (defScope s_ra) := ⟨rfl, rfl, rfl, by decide +kernel, rfl, by decide +kernel, by decide +kernel⟩
def wRowAt (cc cp : Addr) : DW := fun ds Q ex => ∃ a b c, ds = [a, b, c] ∧ plainD a = true ∧ plainD b = true ∧ plainD c = true ∧ (wholeD a (some 0) (some 24) = false → ex cc [("most", .int 24)]) ∧
  (∀ m, a = .int m → 0 ≤ m → m ≤ 24 → wholeD b (some 0) (some m) = false → ex cc [("most", .int m)]) ∧
  (∀ m d, a = .int m → b = .int d → 0 ≤ m → m ≤ 24 → 0 ≤ d → d ≤ m → wholeD c (some 0) (some (prm m d - 1)) = false → ex cp []) ∧
  ∀ m d pl, a = .int m → b = .int d → c = .int pl → 0 ≤ m → m ≤ 24 → 0 ≤ d → d ≤ m → 0 ≤ pl → pl < prm m d → Q (.dat (rowT (unplace (rgI 0 m) d.toNat pl)))
theorem ok_ra {cc cp f : Addr} {fd : FuncData} (F : Fun K "row_at" "row_at" s_ra f fd) (T : Bl mg) (gperm : mg "perm" = some (.builtin "math.perm")) (yBadPlace : Bare0 K mg "BadPlace" cp) (cis_whole : Cal P w K mg base CX0 "is_whole" 1 (spD K wWhole)) (dcheck_count_1 : CalV P w K mg base (L2.CX P w) "check_count" 3 (spD K (wCount cc)) [.int 24]) (ccheck_count : Cal P w K mg base (L2.CX P w) "check_count" 3 (spD K (wCount cc))) :
    FnOk P w K mg base (L2.CX P w) 4 f fd ["m", "d", "place"] (spD K (wRowAt cc cp)) := by
  refine okDX F sc_ra (fun ds Q ex h => ?_) (fun cdv A outer s H E hr md F0 a0 ex hl => ⟨_, _,
      (dss_cons (ds_expr (de_callT dcheck_count_1 (hr.mono (by decide)) (by rfl) (takes_of rfl rfl rfl rfl) (lxt_fn hl) (fun _ => (.cons (.int 24) .nil)) (da_cons (de_var (pv 0)) da_nil)))
      (dss_cons (ds_expr (de_callT ccheck_count.v (hr.mono (by decide)) (by rfl) (takes_of rfl rfl rfl rfl) (lxt_fn hl) (fun _ => .nil) (da_cons (de_var (pv 1)) (da_cons (de_var (pv 0)) da_nil))))
      (dss_cons (ds_if (dt_not (dt_truth K (de_call cis_whole (hr.mono (by decide)) (by rfl) (da_cons (de_var (pv 2)) (da_cons de_int (da_cons (de_op op_sub opd_I0 (de_callBf call_perm cad_perm (by rfl) gperm (da_cons (de_var (pv 0)) (da_cons (de_var (pv 1)) da_nil))) de_int) da_nil))))))
        (dss_one (ds_raise0 yBadPlace (takes_of rfl rfl rfl rfl) rfl (by rfl) (lxt_fn hl)))
        dss_nil)
      (dss_cons (ds_setO (i := 3) sc_ra.nd rfl (Or.inl rfl) (de_listRg rfl (by rfl) T.n_list (drg_1 (by rfl) T.n_range (de_var (pv 0)))))
      (dss_cons (ds_setO (i := 4) sc_ra.nd rfl (Or.inl rfl) (de_lst da_nil))
      (dss_cons (ds_for (passes_of rfl) rfl (di_range1 (by rfl) T.n_range (de_var (pv 1))) (dg_name (i := 5) sc_ra.nd rfl (Or.inl rfl))
        (dss_cons (ds_setF (i := 6) sc_ra.nd rfl (Or.inl rfl) (de_callBf call_perm cad_perm (by rfl) gperm (da_cons (de_op op_sub opd_I0 (de_op op_sub opd_I0 (de_var (pv 0)) (de_var (pv 5))) de_int) (da_cons (de_op op_sub opd_I0 (de_op op_sub opd_I0 (de_var (pv 1)) (de_var (pv 5))) de_int) da_nil))))
        (dss_cons (ds_expr (de_append (pv 4) (de_pop (pv 3) (de_op op_fdivW opd_I (de_var (pv 2)) (de_var (pv 6))))))
        (dss_one (ds_setF (i := 2) sc_ra.nd rfl (Or.inl rfl) (de_op op_mod opd_I (de_var (pv 2)) (de_var (pv 6))))))))
      (dss_one (ds_ret (de_callTy (ktuple_of K) cad_tuple (by rfl) T.n_tuple (by decide +kernel) (da_cons (de_var (pv 4)) da_nil))))))))))
      , fun ds Q h => ?_⟩)
  · obtain ⟨_, _, _, rfl, _⟩ := h
    rfl
  · obtain ⟨a, b, c, rfl, pa, pb, pc, h1, h2, h3, h4⟩ := h
    refine sq_go fun S hS => ?_
    walk_at "d"
    refine ⟨a, 24, rfl, pa, fun ea => ?_, h1⟩
    obtain ⟨m, rfl, m0, m1⟩ := whole_int ea
    refine hS _ (sq_go fun S hS => ?_)
    walk_at "d"
    refine ⟨b, m, rfl, pb, fun eb => ?_, h2 m rfl m0 m1⟩
    obtain ⟨d, rfl, d0, d1⟩ := whole_int eb
    refine hS _ (sq_go fun S hS => ?_)
    walk_at "d"
    refine ⟨m0, d0, by omega, by omega, c, _, _, some 0, some (prm m d - 1), rfl, rfl, rfl, pc, ?_⟩
    cases ec : wholeD c (some 0) (some (prm m d - 1)) with
    | false =>
      walk_at "d"
      exact h3 m d rfl rfl m0 m1 d0 d1 ec
    | true =>
      walk_at "d"
      obtain ⟨pl, rfl, p0, p1⟩ := whole_int ec
      have q := h4 m d pl rfl rfl rfl m0 m1 d0 d1 p0 (by omega)
      refine hS _ (sq_go fun S hS => ?_)
      walk_at "d"
      refine ⟨RgOk.of_le (by omega) (by omega) (by omega) (by omega), hS _ (sq_go fun S hS => ?_)⟩
      walk_at "d"
      refine ⟨Nat.zero_le _, hS _ (sq_go fun S hS => ?_)⟩
      walk_at "d"
      rw [rgD_I, rgD_I]
      have r0 : (rgI 0 m).length = m.toNat := by rw [rgI_len]; omega
      refine ⟨by unfold R62; omega, by unfold R62; omega, dFor_ind (fun es ρ => ∃ (k e : Nat) (left row : List Int) (z : Int) (x y : Option OV), k + e = d.toNat ∧ es = (rgI k d).map D.int ∧ left.length + k = m.toNat ∧ 0 ≤ z ∧ z < prm left.length e ∧ ρ = [some (OV.dat (.int m)), some (OV.dat (.int d)), some (OV.dat (.int z)), some (OV.own (left.map D.int)), some (OV.own (row.map D.int)), x, y] ∧
        row.length = k ∧ row ++ unplace left e z = unplace (rgI 0 m) d.toNat pl) ?_ ?_ _ _ ?_⟩
      · rintro ρ ⟨k, e, left, row, z, x, y, he, e1, _, _, _, rfl, hr, e2⟩
        have hk : d.toNat ≤ k := by
          rcases Nat.lt_or_ge k d.toNat with h | h
          · have hd : d = ((d.toNat : Nat) : Int) := by omega
            rw [hd, rgI_cons h] at e1
            cases e1
          · exact h
        obtain rfl : e = 0 := by omega
        have e3 : unplace left 0 z = [] := rfl
        rw [e3, List.append_nil] at e2
        refine hS _ ?_
        walk_at "d"
        subst e2
        exact ⟨pn_ints _, q⟩
      · rintro x0 es C ρ ⟨k, e, left, row, z, x, y, he, e1, hlen, z0, z1, rfl, hr, e2⟩ hC
        have hk : k < d.toNat := by
          rcases Nat.lt_or_ge k d.toNat with h | h
          · exact h
          · have hd : d = ((d.toNat : Nat) : Int) := by omega
            rw [hd, rgI_nil h] at e1
            cases e1
        obtain ⟨e, rfl⟩ : ∃ e', e = e' + 1 := ⟨e - 1, by omega⟩
        have hd : d = ((d.toNat : Nat) : Int) := by omega
        have e9 : rgI k d = (k : Int) :: rgI ((k + 1 : Nat) : Int) d := by
          conv => lhs; rw [hd]
          conv => rhs; rw [hd]
          exact rgI_cons hk
        rw [e9] at e1
        cases e1
        have hpos : 1 ≤ prm ((left.length : Int) - 1) e := prm_pos (by omega)
        have hz : z < left.length * prm ((left.length : Int) - 1) e := by
          rw [← prm_left (by omega)]
          exact z1
        have q0 : 0 ≤ z / prm ((left.length : Int) - 1) e := Int.ediv_nonneg z0 (by omega)
        have q1 : z / prm ((left.length : Int) - 1) e < left.length := Int.ediv_lt_of_lt_mul (by omega) hz
        obtain ⟨j, hj⟩ : ∃ j : Nat, z / prm ((left.length : Int) - 1) e = j := ⟨(z / prm ((left.length : Int) - 1) e).toNat, by omega⟩
        have hjl : j < left.length := by omega
        have e3 : unplace left (e + 1) z = left.getD j 0 :: unplace (left.eraseIdx j) e (z % prm ((left.length : Int) - 1) e) := by
          show left.getD (z / prm ((left.length : Int) - 1) e).toNat 0 :: unplace (left.eraseIdx (z / prm ((left.length : Int) - 1) e).toNat) e _ = _
          rw [hj, Int.toNat_natCast]
        simp only [dgName, List.set_cons_zero, List.set_cons_succ]
        refine sq_go fun S2 hS2 => ?_
        walk_at "d"
        have eA : m - (k : Int) - 1 = (left.length : Int) - 1 := by omega
        have eB : d - (k : Int) - 1 = e := by omega
        rw [eA, eB]
        refine ⟨by omega, by omega, by omega, by omega, hS2 _ (sq_go fun S3 hS3 => ?_)⟩
        clear hS2 S2
        unfold dDrop dApp dPop isOwnL ownAt
        walk_at "d"
        rw [List.length_map]
        refine ⟨⟨Int.lt_of_lt_of_le Int.zero_lt_one hpos, prm_log (n := (left.length : Int) - 1) (k := e) (by omega) (by omega) (by omega)⟩, _, j, .int left[j], rfl, ?_, ?_, by rw [List.getElem?_map, List.getElem?_eq_getElem hjl]; rfl, ?_, hS3 _ ?_⟩
        · show R63 (z / prm ((left.length : Int) - 1) e)
          rw [hj]
          unfold R63
          omega
        · show seqIndex? (z / prm ((left.length : Int) - 1) e) left.length = some j
          rw [hj]
          exact seqIndex_nat hjl
        · rw [List.length_map]
          exact Nat.lt_of_lt_of_le (by omega : row.length < 25) (by decide)
        · walk_at "d"
          refine ⟨Int.lt_of_lt_of_le Int.zero_lt_one hpos, hC _ ⟨k + 1, e, left.eraseIdx j, row ++ [left[j]], z % prm ((left.length : Int) - 1) e, some (OV.dat (.int k)), some (OV.dat (.int (prm ((left.length : Int) - 1) e))), by omega, rfl, ?_, Int.emod_nonneg _ (Int.ne_of_gt (Int.lt_of_lt_of_le Int.zero_lt_one hpos)), ?_, ?_, ?_, ?_⟩⟩
          · rw [List.length_eraseIdx_of_lt hjl]
            omega
          · have : (((left.eraseIdx j).length : Nat) : Int) = (left.length : Int) - 1 := by rw [List.length_eraseIdx_of_lt hjl]; omega
            rw [this]
            exact Int.emod_lt_of_pos _ (Int.lt_of_lt_of_le Int.zero_lt_one hpos)
          · rw [er_map, List.map_append]
            rfl
          · rw [List.length_append]
            show row.length + 1 = k + 1
            omega
          · rw [← e2, e3, List.append_assoc, List.getD_eq_getElem?_getD, List.getElem?_eq_getElem hjl]
            rfl
      · exact ⟨0, d.toNat, rgI 0 m, [], pl, _, _, by omega, rfl, by omega, p0, by rw [r0, show ((m.toNat : Nat) : Int) = m by omega, show ((d.toNat : Nat) : Int) = d by omega]; omega, rfl, rfl, rfl⟩
end
end Z

set_option Elab.async false
set_option linter.all false
set_option maxRecDepth 100000
namespace Z
open PySem L2
local macro_rules | `(tactic| walk_at "d") => `(tactic| simp only [dSq, dIf, dOr, dAnd, dNot, dTT, dTB, dUn, dBin, dVar, dC, dRet, dNext, dOrV, dAndV, dNotT, dIfE, isiD, OV.isOwn, startD, List.map_cons, List.map_nil, List.cons_append, List.nil_append, List.append_nil, List.length_cons, List.length_nil, List.replicate, Nat.reduceAdd, Nat.reduceSub, Nat.sub_self, Nat.add_sub_cancel,
  List.getElem?_cons_zero, List.getElem?_cons_succ, bOk, iv_d, iv_n, iv_v, nr_d, nr_n, List.any_cons, List.any_nil, Bool.or_false, Bool.or_true, Bool.false_eq_true, Bool.not_true, Bool.not_false, false_implies, true_and, and_true, if_true, if_false, ite_true, ite_false, forall_const, reduceIte, reduceCtorEq,
  d0_1, dI_1, ad_i, ad_t, ad_l, ng_1, dCa, dCons, dNil, dTup, dLst, dEq, dSeq, dRange, dEnum, dRg1, dRg2, dListRg, dTupRg, dSl, dONone, dOSome, dCall, mv_d, mv_n, mv_v, nn_n, nn_b, nn_i, nn_s, nn_l, nn_t, nn_x, nn_d, dSetF, dSetO, dDrop, dFor, dgName, dgTup, dgCons, dgNil, dRetN, dYes, it_1, pm_1, nmR, dXf, dIsE, sq_l, sq_t, sq_x, tr_n, tr_b, tr_i, tr_l, tr_t, tr_x, tr_d, vl_d, vl_n, vl_v, fr_d, fr_o, fr_k, sl_l, sl_t, sl_x, le_1, li_1, tu_1, tu_l, tu_t, tu_x, tx_1, tx_l, tx_t, tx_x, rr_d, rr_n, rr_v, in_1, ix_1, dt_1, isB_1, dCallT, dIdx, dRaise, dAsg, dDnew, List.set_cons_zero, List.set_cons_succ, noOwnAt, List.all_cons, List.all_nil, wipeE, lent, hasOwn, Option.map_some, Option.map_none, dLc, lt_n, pl_n, tyB_n, tyI_n, tyS_n, tyL_n, tyT_n, lt_b, pl_b, tyB_b, tyI_b, tyS_b, tyL_b, tyT_b, lt_i, pl_i, tyB_i, tyI_i, tyS_i, tyL_i, tyT_i, lt_s, pl_s, tyB_s, tyI_s, tyS_s, tyL_s, tyT_s, lt_l, pl_l, tyB_l, tyI_l, tyS_l, tyL_l, tyT_l, lt_t, pl_t, tyB_t, tyI_t, tyS_t, tyL_t, tyT_t, lt_x, pl_x, tyB_x, tyI_x, tyS_x, tyL_x, tyT_x, lt_d, pl_d, tyB_d, tyI_d, tyS_d, tyL_d, tyT_d, noL, noLA, Bool.and_true, Bool.true_and])
local macro_rules | `(tactic| walk_at "e") => `(tactic| first | exact ⟨_, rfl, rfl⟩ | rfl)
abbrev s_rnd : Stmt := top 21
abbrev s_ar : Stmt := top 22
section
variable {P : Program} {w : World} {K : PySem.W.Frag} {mg : Str → Option Value} {base : Heap}
theorem sc_rnd : FnScope ["m", "number", "d"] ["m", "number"] (defScope s_rnd) := ⟨rfl, rfl, rfl, by decide +kernel, rfl, by decide +kernel, by decide +kernel⟩
theorem sc_ar : GScope ["m", "d", "place"] ["m"] (defScope s_ar) := ⟨rfl, rfl, rfl, by decide +kernel, rfl, by decide +kernel, by decide +kernel⟩
/-- the length of the row with a number, and its place -/
def lenPl (m : Int) : Nat → Nat → Int → Nat × Int
  | 0, d, n => (d, n)
  | f + 1, d, n => if prm m d ≤ n then lenPl m f (d + 1) (n - prm m d) else (d, n)
def numRow (m n : Int) : List Int := unplace (rgI 0 m) (lenPl m (m.toNat + 1) 0 n).1 (lenPl m (m.toNat + 1) 0 n).2
theorem allI_cut {m : Int} {d : Nat} (h : (d : Int) ≤ m + 1) : allI m = ((rgI 0 d).map (prm m)).sum + ((rgI d (m + 1)).map (prm m)).sum := by
  have e : rgI 0 (m + 1) = rgI 0 d ++ rgI d (m + 1) := by
    unfold rgI
    rw [show (m + 1 - 0).toNat = (((d : Int) - 0).toNat) + (m + 1 - d).toNat by omega, List.range_add, List.map_append, List.map_map]
    congr 1
    refine List.map_congr_left fun i _ => ?_
    show (0 : Int) + (((((d : Int) - 0).toNat + i : Nat)) : Int) = (d : Int) + (i : Nat)
    omega
  unfold allI
  rw [e, List.map_append, List.sum_append]
theorem rgI_nil' {a b : Int} (h : b ≤ a) : rgI a b = [] := by
  unfold rgI
  rw [show (b - a).toNat = 0 by omega]
  rfl
theorem prmsum_pos {m : Int} : ∀ {d : Int}, d ≤ m → 0 ≤ d → prm m d ≤ ((rgI d (m + 1)).map (prm m)).sum := by
  intro d hd h0
  have e : rgI d (m + 1) = d :: rgI (d + 1) (m + 1) := by
    unfold rgI
    rw [show (m + 1 - d).toNat = (m + 1 - (d + 1)).toNat + 1 by omega, List.range_succ_eq_map, List.map_cons, List.map_map]
    refine congr (congrArg List.cons (by simp)) (List.map_congr_left fun i _ => ?_)
    show d + ((i + 1 : Nat) : Int) = (d + 1) + (i : Nat)
    omega
  rw [e, List.map_cons, List.sum_cons]
  have : 0 ≤ ((rgI (d + 1) (m + 1)).map (prm m)).sum := by
    have gen : ∀ l : List Int, (∀ x ∈ l, 0 ≤ x) → 0 ≤ l.sum := by
      intro l
      induction l with
      | nil => intro _; simp
      | cons a l ih =>
        intro h
        rw [List.sum_cons]
        have h1 := h a List.mem_cons_self
        have h2 := ih fun x hx => h x (List.mem_cons_of_mem _ hx)
        omega
    refine gen _ fun x hx => ?_
    obtain ⟨j, hj, rfl⟩ := List.mem_map.mp hx
    have hm := rgI_mem.mp hj
    have : 1 ≤ prm m ((j.toNat : Nat) : Int) := prm_pos (by omega)
    rw [show ((j.toNat : Nat) : Int) = j by omega] at this
    omega
  omega
theorem prmsum_step {m : Int} {d : Nat} (hd : (d : Int) ≤ m) : ((rgI d (m + 1)).map (prm m)).sum = prm m d + ((rgI ((d + 1 : Nat) : Int) (m + 1)).map (prm m)).sum := by
  have e : rgI d (m + 1) = (d : Int) :: rgI ((d + 1 : Nat) : Int) (m + 1) := by
    have := rgI_cons (k := d) (n := (m + 1).toNat) (by omega)
    rw [show (((m + 1).toNat : Nat) : Int) = m + 1 by omega] at this
    exact this
  rw [e, List.map_cons, List.sum_cons]
def wNumbered (cc cp : Addr) : DW := fun ds Q ex => ∃ a b, ds = [a, b] ∧ plainD a = true ∧ plainD b = true ∧ (wholeD a (some 0) (some 24) = false → ex cc [("most", .int 24)]) ∧
  (∀ m, a = .int m → 0 ≤ m → m ≤ 24 → wholeD b (some 0) (some (allI m - 1)) = false → ex cp []) ∧
  ∀ m n, a = .int m → b = .int n → 0 ≤ m → m ≤ 24 → 0 ≤ n → n < allI m → Q (.dat (rowT (numRow m n)))
theorem ok_rnd {cc cp f : Addr} {fd : FuncData} (F : Fun K "row_numbered" "row_numbered" s_rnd f fd) (T : Bl mg) (gperm : mg "perm" = some (.builtin "math.perm")) (yBadPlace : Bare0 K mg "BadPlace" cp) (cis_whole : Cal P w K mg base CX0 "is_whole" 1 (spD K wWhole))
    (ccount_all_rows : Cal P w K mg base (L2.CX P w) "count_all_rows" 4 (spD K (wAll cc))) (crow_at : Cal P w K mg base (L2.CX P w) "row_at" 4 (spD K (wRowAt cc cp))) :
    FnOk P w K mg base (L2.CX P w) 5 f fd ["m", "number"] (spD K (wNumbered cc cp)) := by
  refine okDX F sc_rnd (fun ds Q ex h => ?_) (fun cdv A outer s H E hr md F0 a0 ex hl => ⟨_, _,
      (dss_cons (ds_if (dt_not (dt_truth K (de_call cis_whole (hr.mono (by decide)) (by rfl) (da_cons (de_var (pv 1)) (da_cons de_int (da_cons (de_op op_sub opd_I0 (de_callT ccount_all_rows.v (hr.mono (by decide)) (by rfl) (takes_of rfl rfl rfl rfl) (lxt_fn hl) (fun _ => .nil) (da_cons (de_var (pv 0)) da_nil)) de_int) da_nil))))))
        (dss_one (ds_raise0 yBadPlace (takes_of rfl rfl rfl rfl) rfl (by rfl) (lxt_fn hl)))
        dss_nil)
      (dss_cons (ds_setF (i := 2) sc_rnd.nd rfl (Or.inl rfl) de_int)
      (dss_cons (ds_while (passes_of rfl) (dt_cmp op_ge opd_B0 (de_var (pv 1)) (de_callBf call_perm cad_perm (by rfl) gperm (da_cons (de_var (pv 0)) (da_cons (de_var (pv 2)) da_nil))) (nomark _))
        (dss_cons (ds_augI (i := 1) sc_rnd.nd rfl (Or.inl rfl) ip_sub (de_callBf call_perm cad_perm (by rfl) gperm (da_cons (de_var (pv 0)) (da_cons (de_var (pv 2)) da_nil))))
        (dss_one (ds_augI (i := 2) sc_rnd.nd rfl (Or.inl rfl) ip_add de_int))))
      (dss_one (ds_ret (de_callT crow_at.v (hr.mono (by decide)) (by rfl) (takes_of rfl rfl rfl rfl) (lxt_fn hl) (fun _ => .nil) (da_cons (de_var (pv 0)) (da_cons (de_var (pv 2)) (da_cons (de_var (pv 1)) da_nil)))))))))
      , fun ds Q h => ?_⟩)
  · obtain ⟨_, _, rfl, _⟩ := h
    rfl
  · obtain ⟨a, b, rfl, pa, pb, h1, h2, h3⟩ := h
    refine sq_go fun S hS => ?_
    walk_at "d"
    refine ⟨a, rfl, pa, h1, fun m ea m0 m1 => ?_⟩
    subst ea
    refine ⟨(fun z => by cases z), b, _, _, some 0, some (allI m - 1), rfl, rfl, rfl, pb, ?_⟩
    cases eb : wholeD b (some 0) (some (allI m - 1)) with
    | false =>
      walk_at "d"
      exact h2 m rfl m0 m1 eb
    | true =>
      walk_at "d"
      obtain ⟨n, rfl, n0, n1⟩ := whole_int eb
      have q := h3 m n rfl rfl m0 m1 n0 (by omega)
      refine hS _ (sq_go fun S hS => ?_)
      walk_at "d"
      refine hS _ (sq_go fun S hS => ?_)
      refine ⟨fun k ρ => ∃ (d : Nat) (z : Int), k = (m.toNat + 1) - d ∧ (d : Int) ≤ m ∧ 0 ≤ z ∧ z < ((rgI d (m + 1)).map (prm m)).sum ∧ ρ = [some (OV.dat (.int m)), some (OV.dat (.int z)), some (OV.dat (.int d))] ∧ lenPl m k d z = lenPl m (m.toNat + 1) 0 n,
        ⟨_, 0, n, rfl, m0, n0, by have : n < allI m := by omega
                                  exact this, rfl, rfl⟩, ?_⟩
      rintro k ρ ⟨d, z, rfl, d1, z0, z1, rfl, e⟩
      obtain ⟨k, hk⟩ : ∃ k, m.toNat + 1 - d = k + 1 := ⟨m.toNat - d, by omega⟩
      rw [hk] at e ⊢
      walk_at "d"
      refine ⟨m0, by omega, by omega, by omega, ?_⟩
      by_cases hle : prm m d ≤ z
      · have hd : (d : Int) + 1 ≤ m := by
          rcases Int.lt_or_le (d : Int) m with h | h
          · omega
          · exfalso
            have ed : (d : Int) = m := by omega
            rw [prmsum_step d1, rgI_nil' (by omega)] at z1
            simp at z1
            omega
        rw [decide_eq_true hle]
        walk_at "d"
        unfold dAugI
        walk_at "d"
        refine ⟨z, rfl, m0, by omega, by omega, by omega, _, rfl, d, rfl, _, rfl, k, by omega, d + 1, z - prm m d, by omega, by omega, by omega, ?_, rfl, ?_⟩
        · have := prmsum_step (m := m) (d := d) d1
          omega
        · rw [← e]
          show _ = if prm m d ≤ z then _ else _
          rw [if_pos hle]
      · rw [decide_eq_false hle]
        walk_at "d"
        have e2 : lenPl m (k + 1) d z = (d, z) := by
          show (if prm m d ≤ z then _ else _) = _
          rw [if_neg hle]
        have w24 : wholeD (.int m) (some 0) (some 24) = true := by
          show (decide (0 ≤ m) && decide (m ≤ 24)) = true
          rw [decide_eq_true m0, decide_eq_true m1]
          rfl
        have wm : wholeD (.int d) (some 0) (some m) = true := by
          show (decide ((0 : Int) ≤ (d : Int)) && decide ((d : Int) ≤ m)) = true
          rw [decide_eq_true (by omega), decide_eq_true d1]
          rfl
        have wz : wholeD (.int z) (some 0) (some (prm m d - 1)) = true := by
          show (decide ((0 : Int) ≤ z) && decide (z ≤ prm m d - 1)) = true
          rw [decide_eq_true z0, decide_eq_true (by omega)]
          rfl
        refine hS _ ?_
        walk_at "d"
        refine ⟨_, _, _, rfl, rfl, rfl, rfl, fun z => (by rw [w24] at z; cases z), fun x1 y1 _ _ z => ?_, fun x1 x2 y1 y2 _ _ _ _ z => ?_, fun x1 x2 pl y1 y2 y3 _ _ _ _ _ _ => ?_⟩
        · cases y1
          rw [wm] at z; cases z
        · cases y1
          cases y2
          rw [wz] at z; cases z
        · cases y1
          cases y2
          cases y3
          have e3 : numRow m n = unplace (rgI 0 m) (d : Int).toNat z := by
            unfold numRow
            rw [← e, e2]
            rfl
          rw [← e3]
          exact q
/-! ### all rows -/
def allRowsI (m : Int) : List (List Int) := (rgI 0 (m + 1)).flatMap fun d => (rgI 0 (prm m d)).map fun pl => unplace (rgI 0 m) d.toNat pl
def wAllRows (cc : Addr) : DWG := fun ds Q ex => ∃ a, ds = [a] ∧ plainD a = true ∧ (wholeD a (some 0) (some 6) = false → ex cc [("most", .int 6)]) ∧ ∀ m, a = .int m → 0 ≤ m → m ≤ 6 → Q ((allRowsI m).map rowT)
theorem ok_ar {cc cp f : Addr} {fd : FuncData} (F : Fun K "all_rows" "all_rows" s_ar f fd) (T : Bl mg) (gperm : mg "perm" = some (.builtin "math.perm")) (g6 : ∃ t, mg "MOST_LISTED" = some (.int 6 t))
    (ccheck_count : Cal P w K mg base (L2.CX P w) "check_count" 3 (spD K (wCount cc))) (crow_at : Cal P w K mg base (L2.CX P w) "row_at" 4 (spD K (wRowAt cc cp))) : GFn P w K mg base 5 f fd ["m"] (spG K (wAllRows cc)) := by
  obtain ⟨t6, g6⟩ := g6
  refine okG F sc_ar (fun ds Q ex h => ?_) (fun cdv A outer s H E pn hr md F0 a0 ex hl => ⟨_, _,
      (dgss_cons (dgs_plain (ds_expr (de_callT ccheck_count.v (hr.mono (by decide)) (by rfl) (takes_gcx) (lxt_fn hl) (fun _ => .nil) (da_cons (de_var (pv 0)) (da_cons (de_cst (pe_glob (v := .int 6) (by rfl) g6 ⟨_, rfl⟩) fun _ => .int _) da_nil)))))
      (dgss_cons (dgs_for owns_gcx rfl (di_range1 (by rfl) T.n_range (de_op (op_addA K) opd_add (de_var (pv 0)) de_int)) (dg_name (i := 1) sc_ar.nd rfl (Or.inl rfl))
        (dgss_cons (dgs_for owns_gcx rfl (di_range1 (by rfl) T.n_range (de_callBf call_perm cad_perm (by rfl) gperm (da_cons (de_var (pv 0)) (da_cons (de_var (pv 1)) da_nil)))) (dg_name (i := 2) sc_ar.nd rfl (Or.inl rfl))
          (dgss_cons (dgs_yield (de_callT crow_at.v (hr.mono (by decide)) (by rfl) (takes_gcx) (lxt_fn hl) (fun _ => .nil) (da_cons (de_var (pv 0)) (da_cons (de_var (pv 1)) (da_cons (de_var (pv 2)) da_nil)))))
          dgss_nil))
        dgss_nil))
      dgss_nil))
      , fun ds Q h => ?_⟩)
  · obtain ⟨_, rfl, _⟩ := h
    rfl
  · obtain ⟨a, rfl, pa, h1, h2⟩ := h
    unfold dgSq dgPlain
    walk_at "d"
    refine ⟨a, 6, rfl, pa, fun ea => ?_, h1⟩
    obtain ⟨m, rfl, m0, m1⟩ := whole_int ea
    have q := h2 m rfl m0 m1
    have pcount : ∀ d : Int, 0 ≤ d → d ≤ m → 1 ≤ prm m d ∧ prm m d ≤ 720 := by
      intro d d0 d1
      have key : ∀ a : Fin 7, ∀ b : Fin 7, (b : Nat) ≤ a → 1 ≤ prm ((a : Nat) : Int) ((b : Nat) : Int) ∧ prm ((a : Nat) : Int) ((b : Nat) : Int) ≤ 720 := by decide +kernel
      have := key ⟨m.toNat, by omega⟩ ⟨d.toNat, by omega⟩ (by show d.toNat ≤ m.toNat; omega)
      simpa [Int.toNat_of_nonneg m0, Int.toNat_of_nonneg d0] using this
    unfold dgFor
    walk_at "d"
    rw [rgD_I]
    refine ⟨by unfold R62; omega, by unfold R62; omega, dgFor_ind (fun es out ρ => ∃ (k : Nat) (x y : Option OV), es = (rgI k (m + 1)).map D.int ∧ (k : Int) ≤ m + 1 ∧ ρ = [some (OV.dat (.int m)), x, y] ∧ out = ((rgI 0 k).flatMap fun d => (rgI 0 (prm m d)).map fun pl => rowT (unplace (rgI 0 m) d.toNat pl))) ?_ ?_ _ _ _ ⟨0, _, _, rfl, by omega, rfl, rfl⟩⟩
    · rintro out ρ ⟨k, x, y, e1, hk, rfl, rfl⟩
      have hk2 : (k : Int) = m + 1 := by
        rcases Int.lt_or_le (k : Int) (m + 1) with h | h
        · have := rgI_cons (k := k) (n := (m + 1).toNat) (by omega)
          rw [show (((m + 1).toNat : Nat) : Int) = m + 1 by omega] at this
          rw [this] at e1; cases e1
        · omega
      show Q _
      rw [hk2]
      have e3 : (allRowsI m).map rowT = (rgI 0 (m + 1)).flatMap fun d => (rgI 0 (prm m d)).map fun pl => rowT (unplace (rgI 0 m) d.toNat pl) := by
        unfold allRowsI
        rw [List.map_flatMap]
        simp only [List.map_map]
        rfl
      rw [← e3]
      exact q
    · rintro d es C out ρ ⟨k, x, y, e1, hk, rfl, rfl⟩ hC
      have hk2 : (k : Int) < m + 1 := by
        rcases Int.lt_or_le (k : Int) (m + 1) with h | h
        · exact h
        · rw [rgI_nil' h] at e1; cases e1
      have e9 : rgI k (m + 1) = (k : Int) :: rgI ((k + 1 : Nat) : Int) (m + 1) := by
        have := rgI_cons (k := k) (n := (m + 1).toNat) (by omega)
        rw [show (((m + 1).toNat : Nat) : Int) = m + 1 by omega] at this
        exact this
      rw [e9] at e1
      cases e1
      obtain ⟨p1, p2⟩ := pcount k (by omega) (by omega)
      simp only [dgName, List.set_cons_zero, List.set_cons_succ]
      walk_at "d"
      refine ⟨m0, by omega, by omega, by omega, ?_⟩
      rw [rgD_I]
      have cat : ∀ j : Nat, (rgI 0 ((j + 1 : Nat) : Int)) = rgI 0 (j : Int) ++ [(j : Int)] := by
        intro j
        unfold rgI
        rw [show (((j + 1 : Nat) : Int) - 0).toNat = j + 1 by omega, show ((j : Int) - 0).toNat = j by omega, List.range_succ, List.map_append]
        simp
      have flen : ∀ i : Nat, (i : Int) ≤ m + 1 → ((rgI 0 i).flatMap fun d => (rgI 0 (prm m d)).map fun pl => rowT (unplace (rgI 0 m) d.toNat pl)).length ≤ 720 * i := by
        intro i
        induction i with
        | zero =>
          intro _
          rw [show rgI 0 ((0 : Nat) : Int) = [] from rgI_nil' (by omega)]
          simp
        | succ i ih =>
          intro hi
          have h1 := ih (by omega)
          obtain ⟨_, h2⟩ := pcount i (by omega) (by omega)
          rw [cat i, List.flatMap_append, List.length_append]
          have h3 : (List.flatMap (fun d => (rgI 0 (prm m d)).map fun pl => rowT (unplace (rgI 0 m) d.toNat pl)) [(i : Int)]).length ≤ 720 := by
            rw [List.flatMap_cons, List.flatMap_nil, List.append_nil, List.length_map, rgI_len]
            omega
          omega
      have r62 : R62 (prm m k) := by
        generalize prm m k = z at p1 p2
        unfold R62
        omega
      refine ⟨by unfold R62; omega, r62, dgFor_ind (fun es2 out2 ρ2 => ∃ (j : Nat) (y2 : Option OV), es2 = (rgI j (prm m k)).map D.int ∧ (j : Int) ≤ prm m k ∧ ρ2 = [some (OV.dat (.int m)), some (OV.dat (.int k)), y2] ∧ out2 = ((rgI 0 k).flatMap fun d => (rgI 0 (prm m d)).map fun pl => rowT (unplace (rgI 0 m) d.toNat pl)) ++ ((rgI 0 j).map fun pl => rowT (unplace (rgI 0 m) (k : Int).toNat pl))) ?_ ?_ _ _ _ ⟨0, _, rfl, by omega, rfl, ?_⟩⟩
      · rintro out2 ρ2 ⟨j, y2, e2, hj, rfl, rfl⟩
        have hj2 : (j : Int) = prm m k := by
          rcases Int.lt_or_le (j : Int) (prm m k) with h | h
          · have := rgI_cons (k := j) (n := (prm m k).toNat) (by omega)
            rw [show (((prm m k).toNat : Nat) : Int) = prm m k by omega] at this
            rw [this] at e2; cases e2
          · omega
        refine hC _ _ ⟨k + 1, _, _, rfl, by omega, rfl, ?_⟩
        rw [hj2, cat k, List.flatMap_append]
        simp
      · rintro d2 es2 C2 out2 ρ2 ⟨j, y2, e2, hj, rfl, rfl⟩ hC2
        have hj2 : (j : Int) < prm m k := by
          rcases Int.lt_or_le (j : Int) (prm m k) with h | h
          · exact h
          · rw [rgI_nil' h] at e2; cases e2
        have e8 : rgI j (prm m k) = (j : Int) :: rgI ((j + 1 : Nat) : Int) (prm m k) := by
          have := rgI_cons (k := j) (n := (prm m k).toNat) (by omega)
          rw [show (((prm m k).toNat : Nat) : Int) = prm m k by omega] at this
          exact this
        rw [e8] at e2
        cases e2
        simp only [dgName, List.set_cons_zero, List.set_cons_succ]
        unfold dgYield
        walk_at "d"
        refine ⟨?_, .int m, .int k, .int j, rfl, rfl, rfl, rfl, fun z => ?_, fun x1 y1 _ _ z => ?_, fun x1 x2 y1 y2 _ _ _ _ z => ?_, fun x1 x2 pl y1 y2 y3 _ _ _ _ _ _ => ?_⟩
        · have := flen k (by omega)
          rw [List.length_append, List.length_map, rgI_len]
          refine Nat.lt_of_lt_of_le (?_ : _ < 720 * 7 + 721) (by decide)
          omega
        · rw [show wholeD (.int m) (some 0) (some 24) = true by
            show (decide (0 ≤ m) && decide (m ≤ 24)) = true
            rw [decide_eq_true m0, decide_eq_true (by omega)]
            rfl] at z
          cases z
        · cases y1
          rw [show wholeD (.int k) (some 0) (some m) = true by
            show (decide ((0 : Int) ≤ (k : Int)) && decide ((k : Int) ≤ m)) = true
            rw [decide_eq_true (by omega), decide_eq_true (by omega)]
            rfl] at z
          cases z
        · cases y1
          cases y2
          rw [show wholeD (.int j) (some 0) (some (prm m k - 1)) = true by
            show (decide ((0 : Int) ≤ (j : Int)) && decide ((j : Int) ≤ prm m k - 1)) = true
            rw [decide_eq_true (by omega), decide_eq_true (by omega)]
            rfl] at z
          cases z
        · cases y1
          cases y2
          cases y3
          refine hC2 _ _ ⟨j + 1, some (OV.dat (.int j)), rfl, by omega, rfl, ?_⟩
          rw [cat j, List.map_append, List.append_assoc]
          rfl
      · rw [show rgI 0 ((0 : Nat) : Int) = [] from rgI_nil' (by omega), List.map_nil, List.append_nil]
end
end Z

set_option Elab.async false
set_option linter.all false
set_option maxRecDepth 100000
namespace Z
open PySem L2
local macro_rules | `(tactic| walk_at "d") => `(tactic| simp only [dSq, dIf, dOr, dAnd, dNot, dTT, dTB, dUn, dBin, dVar, dC, dRet, dNext, dOrV, dAndV, dNotT, dIfE, isiD, OV.isOwn, startD, List.map_cons, List.map_nil, List.cons_append, List.nil_append, List.append_nil, List.length_cons, List.length_nil, List.replicate, Nat.reduceAdd, Nat.reduceSub, Nat.sub_self, Nat.add_sub_cancel,
  List.getElem?_cons_zero, List.getElem?_cons_succ, bOk, iv_d, iv_n, iv_v, nr_d, nr_n, List.any_cons, List.any_nil, Bool.or_false, Bool.or_true, Bool.false_eq_true, Bool.not_true, Bool.not_false, false_implies, true_and, and_true, if_true, if_false, ite_true, ite_false, forall_const, reduceIte, reduceCtorEq,
  d0_1, dI_1, ad_i, ad_t, ad_l, ng_1, dCa, dCons, dNil, dTup, dLst, dEq, dSeq, dRange, dEnum, dRg1, dRg2, dListRg, dTupRg, dSl, dONone, dOSome, dCall, mv_d, mv_n, mv_v, nn_n, nn_b, nn_i, nn_s, nn_l, nn_t, nn_x, nn_d, dSetF, dSetO, dDrop, dFor, dgName, dgTup, dgCons, dgNil, dRetN, dYes, it_1, pm_1, nmR, dXf, dIsE, sq_l, sq_t, sq_x, tr_n, tr_b, tr_i, tr_l, tr_t, tr_x, tr_d, vl_d, vl_n, vl_v, fr_d, fr_o, fr_k, sl_l, sl_t, sl_x, le_1, li_1, tu_1, tu_l, tu_t, tu_x, tx_1, tx_l, tx_t, tx_x, rr_d, rr_n, rr_v, in_1, ix_1, dt_1, isB_1, dCallT, dIdx, dRaise, dAsg, dDnew, List.set_cons_zero, List.set_cons_succ, noOwnAt, List.all_cons, List.all_nil, wipeE, lent, hasOwn, Option.map_some, Option.map_none, dLc, lt_n, pl_n, tyB_n, tyI_n, tyS_n, tyL_n, tyT_n, lt_b, pl_b, tyB_b, tyI_b, tyS_b, tyL_b, tyT_b, lt_i, pl_i, tyB_i, tyI_i, tyS_i, tyL_i, tyT_i, lt_s, pl_s, tyB_s, tyI_s, tyS_s, tyL_s, tyT_s, lt_l, pl_l, tyB_l, tyI_l, tyS_l, tyL_l, tyT_l, lt_t, pl_t, tyB_t, tyI_t, tyS_t, tyL_t, tyT_t, lt_x, pl_x, tyB_x, tyI_x, tyS_x, tyL_x, tyT_x, lt_d, pl_d, tyB_d, tyI_d, tyS_d, tyL_d, tyT_d, noL, noLA, Bool.and_true, Bool.true_and])
local macro_rules | `(tactic| walk_at "e") => `(tactic| first | exact ⟨_, rfl, rfl⟩ | rfl)
abbrev s_lfa : Stmt := top 24
abbrev s_lro : Stmt := top 25
abbrev s_lop : Stmt := top 35
section
variable {P : Program} {w : World} {K : PySem.W.Frag} {mg : Str → Option Value} {base : Heap}
theorem noLA_rows : ∀ l : List (List Int), noLA (l.map rowT) = true
  | [] => rfl
  | r :: l => by
    show (noL (rowT r) && noLA (l.map rowT)) = true
    rw [noLA_rows l, Bool.and_true]
    exact pn_ints r
theorem rg_case {k : Nat} {d : Int} {x : D} {es : List D} (e : x :: es = (rgI k d).map D.int) : (k : Int) < d ∧ x = .int k ∧ es = (rgI ((k + 1 : Nat) : Int) d).map D.int := by
  have hk2 : (k : Int) < d := by
    rcases Int.lt_or_le (k : Int) d with h | h
    · exact h
    · rw [rgI_nil' h] at e; cases e
  have := rgI_cons (k := k) (n := d.toNat) (by omega)
  rw [show ((d.toNat : Nat) : Int) = d by omega] at this
  rw [this] at e
  cases e
  exact ⟨hk2, rfl, rfl⟩
theorem rg_done {k : Nat} {d : Int} (e : [] = (rgI k d).map D.int) : d ≤ k := by
  rcases Int.lt_or_le (k : Int) d with h | h
  · have := rgI_cons (k := k) (n := d.toNat) (by omega)
    rw [show ((d.toNat : Nat) : Int) = d by omega] at this
    rw [this] at e; cases e
  · exact h
theorem sc_lfa : FnScope ["m", "d", "many", "step"] ["m", "d"] (defScope s_lfa) := ⟨rfl, rfl, rfl, by decide +kernel, rfl, by decide +kernel, by decide +kernel⟩
def wLFall : DW := fun ds Q _ => ∃ m d : Int, ds = [.int m, .int d] ∧ 0 ≤ d ∧ d ≤ m ∧ m ≤ 24 ∧ Q (.dat (.int (prm m d)))
theorem ok_lfa {f : Addr} {fd : FuncData} (F : Fun K "_law_falling" "_law_falling" s_lfa f fd) (T : Bl mg) : FnOk P w K mg base CX0 1 f fd ["m", "d"] (spD K wLFall) := by
  refine okD F sc_lfa (fun ds Q ex h => ?_) (fun cdv A outer s H E hr md F0 a0 => ⟨_, _,
      (dss_cons (ds_setF (i := 2) sc_lfa.nd rfl (Or.inl rfl) de_int)
      (dss_cons (ds_for PassesOwn.never rfl (di_range1 (by rfl) T.n_range (de_var (pv 1))) (dg_name (i := 3) sc_lfa.nd rfl (Or.inl rfl))
        (dss_one (ds_setF (i := 2) sc_lfa.nd rfl (Or.inl rfl) (de_op op_mul opd_I (de_var (pv 2)) (de_op op_sub opd_I0 (de_var (pv 0)) (de_var (pv 3)))))))
      (dss_one (ds_ret (de_var (pv 2))))))
      , fun ds Q ex h => ?_⟩)
  · obtain ⟨_, _, rfl, _⟩ := h
    rfl
  · obtain ⟨m, d, rfl, d0, d1, m1, q⟩ := h
    walk_at "d"
    rw [rgD_I]
    have p0 : prm m ((0 : Nat) : Int) = 1 := by
      show PySem.W.mcPerm m 0 = 1
      rw [PySem.W.mcPerm_at (by omega)]
      exact PySem.W.mc_fp_zero _
    refine ⟨by unfold R62; omega, by unfold R62; omega, dFor_ind (fun es ρ => ∃ (k : Nat) (x : Option OV), es = (rgI k d).map D.int ∧ (k : Int) ≤ d ∧ ρ = [some (OV.dat (.int m)), some (OV.dat (.int d)), some (OV.dat (.int (prm m k))), x]) ?_ ?_ _ _ ⟨0, none, rfl, by omega, by rw [p0]⟩⟩
    · rintro ρ ⟨k, x, e1, hk, rfl⟩
      have hk2 : (k : Int) = d := by
        have := rg_done e1
        omega
      rw [hk2]
      walk_at "d"
      exact q
    · rintro x es C ρ ⟨k, y, e1, hk, rfl⟩ hC
      obtain ⟨hk2, rfl, rfl⟩ := rg_case e1
      walk_at "d"
      have e4 : prm m k * (m - k) = prm m ((k + 1 : Nat) : Int) := by
        show PySem.W.mcPerm m k * (m - k) = PySem.W.mcPerm m ((k + 1 : Nat) : Int)
        rw [PySem.W.mcPerm_at (by omega), PySem.W.mcPerm_at (by omega), Int.toNat_natCast, Int.toNat_natCast, PySem.W.mc_fp_succ]
      exact ⟨.inr ⟨by omega, by omega⟩, hC _ ⟨k + 1, some (OV.dat (.int k)), rfl, by omega, by rw [e4]⟩⟩
theorem sc_lro : FnScope ["m", "d", "level", "step", "longer", "row", "f"] ["m", "d"] (defScope s_lro) := ⟨rfl, rfl, rfl, by decide +kernel, rfl, by decide +kernel, by decide +kernel⟩
def nextRows (m : Int) (r : List Int) : List (List Int) := ((rgI 0 m).filter fun f => !decide (f ∈ r)).map fun f => r ++ [f]
def rowsL (m : Int) : Nat → List (List Int)
  | 0 => [[]]
  | k + 1 => (rowsL m k).flatMap (nextRows m)
def wLRows : DW := fun ds Q _ => ∃ m d : Int, ds = [.int m, .int d] ∧ 0 ≤ d ∧ d ≤ m ∧ m ≤ 5 ∧ Q (.dat (.lst ((rowsL m d.toNat).map rowT)))
theorem ok_lro {f : Addr} {fd : FuncData} (F : Fun K "_law_rows_of" "_law_rows_of" s_lro f fd) (T : Bl mg) : FnOk P w K mg base CX0 1 f fd ["m", "d"] (spD K wLRows) := by
  refine okD F sc_lro (fun ds Q ex h => ?_) (fun cdv A outer s H E hr md F0 a0 => ⟨_, _,
      (dss_cons (ds_setF (i := 2) sc_lro.nd rfl (Or.inl rfl) (de_lst (da_cons (de_tup da_nil) da_nil)))
      (dss_cons (ds_for PassesOwn.never rfl (di_range1 (by rfl) T.n_range (de_var (pv 1))) (dg_name (i := 3) sc_lro.nd rfl (Or.inl rfl))
        (dss_cons (ds_setO (i := 4) sc_lro.nd rfl (Or.inl rfl) (de_lst da_nil))
        (dss_cons (ds_for PassesOwn.never rfl (di_seq K (de_var (pv 2))) (dg_name (i := 5) sc_lro.nd rfl (Or.inr rfl))
          (dss_one (ds_expr (de_extend (pv 4) (de_lc (own := [("f", 6)]) rfl sc_lro.nd (di_range1 (by rfl) T.n_range (de_var (pv 0))) (blkOk_by (own := [("f", 6)]) (by show blkC ["m", "d", "level", "step", "longer", "row", "f"] (defScope s_lro) _ _ = true; decide +kernel)) (fun _ _ _ _ _ _ _ _ => (dg_name (i := 6) sc_lro.nd rfl (Or.inl rfl))) (fun _ _ _ _ _ _ _ _ => (dps_one (dt_cmp (knotin_seq K) opd_in (de_var (pv 6)) (de_var (pv 5)) (by rfl)))) (fun _ _ _ _ _ _ _ _ => (de_op (op_addA K) opd_add (de_var (pv 5)) (de_tup (da_cons (de_var (pv 6)) da_nil)))) (by decide) s)))))
        (dss_one (ds_setF (i := 2) sc_lro.nd rfl (Or.inl rfl) (de_callTy (klist_of K) cad_list (by rfl) T.n_list (by decide +kernel) (da_cons (de_var (pv 4)) da_nil)))))))
      (dss_one (ds_ret (de_var (pv 2))))))
      , fun ds Q ex h => ?_⟩)
  · obtain ⟨_, _, rfl, _⟩ := h
    rfl
  · obtain ⟨m, d, rfl, d0, d1, m1, q⟩ := h
    have small : ∀ k : Nat, (k : Int) ≤ m → (rowsL m k).length ≤ 120 := by
      intro k hk
      have key : ∀ a : Fin 6, ∀ b : Fin 6, (b : Nat) ≤ a → (rowsL ((a : Nat) : Int) b).length ≤ 120 := by decide +kernel
      have := key ⟨m.toNat, by omega⟩ ⟨k, by omega⟩ (by show k ≤ m.toNat; omega)
      simpa [Int.toNat_of_nonneg (show 0 ≤ m by omega)] using this
    have rlen : ∀ k : Nat, (k : Int) ≤ m → ∀ r ∈ rowsL m k, r.length ≤ 100 := by
      intro k hk
      have key : ∀ a : Fin 6, ∀ b : Fin 6, (b : Nat) ≤ a → ∀ r ∈ rowsL ((a : Nat) : Int) b, r.length ≤ 100 := by decide +kernel
      have := key ⟨m.toNat, by omega⟩ ⟨k, by omega⟩ (by show k ≤ m.toNat; omega)
      simpa [Int.toNat_of_nonneg (show 0 ≤ m by omega)] using this
    refine sq_go fun S hS => ?_
    walk_at "d"
    refine ⟨Nat.zero_le _, by decide, hS _ (sq_go fun S hS => ?_)⟩
    walk_at "d"
    rw [rgD_I]
    refine ⟨by unfold R62; omega, by unfold R62; omega, dFor_ind (fun es ρ => ∃ (k : Nat) (x y z : Option OV), es = (rgI k d).map D.int ∧ (k : Int) ≤ d ∧ ρ = [some (OV.dat (.int m)), some (OV.dat (.int d)), some (OV.dat (.lst ((rowsL m k).map rowT))), x, y, z, none]) ?_ ?_ _ _ ⟨0, none, none, none, rfl, by omega, rfl⟩⟩
    · rintro ρ ⟨k, x, y, z, e1, hk, rfl⟩
      have hk2 : (k : Int) = d := by
        have := rg_done e1
        omega
      obtain rfl : k = d.toNat := by omega
      refine hS _ ?_
      walk_at "d"
      exact q
    · rintro x es C ρ ⟨k, y, y2, y3, e1, hk, rfl⟩ hC
      obtain ⟨hk2, rfl, rfl⟩ := rg_case e1
      simp only [dgName, List.set_cons_zero, List.set_cons_succ]
      refine sq_go fun S2 hS2 => ?_
      walk_at "d"
      refine ⟨Nat.zero_le _, hS2 _ (sq_go fun S2 hS2 => ?_)⟩
      walk_at "d"
      have hsm := small (k + 1) (by omega)
      refine dFor_ind (fun es ρ => ∃ (dn rest : List (List Int)) (y3 : Option OV), rowsL m k = dn ++ rest ∧ es = rest.map rowT ∧ ρ = [some (OV.dat (.int m)), some (OV.dat (.int d)), some (OV.dat (.lst ((rowsL m k).map rowT))), some (OV.dat (.int k)), some (OV.own ((dn.flatMap (nextRows m)).map rowT)), y3, none]) ?_ ?_ _ _ ⟨[], rowsL m k, y3, rfl, rfl, rfl⟩
      · rintro ρ ⟨dn, rest, y3, e2, e3, rfl⟩
        cases rest with
        | cons _ _ => cases e3
        | nil =>
          rw [List.append_nil] at e2
          subst e2
          refine hS2 _ ?_
          walk_at "d"
          exact ⟨noLA_rows _, hC _ ⟨k + 1, _, _, _, rfl, by omega, rfl⟩⟩
      · rintro x es C2 ρ ⟨dn, rest, y3, e2, e3, rfl⟩ hC2
        cases rest with
        | nil => cases e3
        | cons r rest =>
          cases e3
          walk_at "d"
          unfold dExt isOwnL ownAt
          walk_at "d"
          rw [rgD_I]
          have rl : r.length ≤ 100 := rlen k (by omega) r (by rw [e2]; simp)
          refine ⟨by unfold R62; omega, by unfold R62; omega, dLc_ints (fun f => !decide (f ∈ r)) (fun f => rowT (r ++ [f])) (by rw [rgI_len]; omega) (fun i _ _ => pn_ints _) (fun i hi Z0 C0 w1 w2 => ?_) ?_⟩
          · walk_at "d"
            refine ⟨rfl, flat_ints r, ?_⟩
            cases e : decide (i ∈ r) with
            | true => exact ite_f (by show ¬ (!inD (.int i) (r.map D.int)) = true; rw [in_ints, e]; decide) (w2 (by simpa using e))
            | false =>
              refine ite_t (by show (!inD (.int i) (r.map D.int)) = true; rw [in_ints, e]; rfl) ?_
              rw [List.length_map]
              refine ⟨by decide, Nat.le_trans (by omega : r.length + 1 ≤ 101) (by decide), w1 (by simpa using e) _ _ rfl ?_⟩
              show D.tup _ = D.tup _
              rw [List.map_append]
              rfl
          · refine ⟨_, rfl, ?_, hC2 _ ⟨dn ++ [r], rest, some (OV.dat (rowT r)), by rw [e2]; simp, rfl, ?_⟩⟩
            · rw [List.length_map, List.length_map]
              refine Nat.le_trans ?_ (by decide : 120 ≤ sizeLine)
              have e5 : rowsL m (k + 1) = dn.flatMap (nextRows m) ++ (nextRows m r ++ rest.flatMap (nextRows m)) := by
                show (rowsL m k).flatMap (nextRows m) = _
                rw [e2, List.flatMap_append, List.flatMap_cons]
              rw [e5, List.length_append, List.length_append] at hsm
              unfold nextRows at hsm ⊢
              rw [List.length_map] at hsm
              omega
            · rw [List.flatMap_append, List.map_append, List.flatMap_cons, List.flatMap_nil, List.append_nil]
              unfold nextRows
              rw [List.map_map]
              rfl
theorem rgI_split {m i : Int} (h0 : 0 ≤ i) (h1 : i < m) : rgI 0 m = rgI 0 i ++ i :: rgI (i + 1) m := by
  unfold rgI
  rw [show (m - 0).toNat = (i - 0).toNat + ((m - (i + 1)).toNat + 1) by omega, List.range_add, List.map_append, List.map_map, List.range_succ_eq_map, List.map_cons, List.map_map]
  congr 1
  refine congr (congrArg List.cons ?_) (List.map_congr_left fun j _ => ?_)
  · show (0 : Int) + (((i - 0).toNat + 0 : Nat) : Int) = i
    omega
  · show (0 : Int) + (((i - 0).toNat + (j + 1) : Nat) : Int) = i + 1 + (j : Nat)
    omega
def lft (m : Int) (s : List Int) : List Int := (rgI 0 m).filter fun f => !decide (f ∈ s)
theorem lft_idx {m i : Int} {s : List Int} (h0 : 0 ≤ i) (h1 : i < m) (hs : i ∉ s) : (lft m s).idxOf i = ((rgI 0 i).filter fun f => !decide (f ∈ s)).length := by
  unfold lft
  rw [rgI_split h0 h1, List.filter_append, List.idxOf_append, if_neg (by
    intro z
    have := rgI_mem.mp (List.mem_filter.mp z).1
    omega), List.filter_cons, if_pos (by simpa using hs), List.idxOf_cons_self]
  omega
theorem lft_erase {m i : Int} {s : List Int} : (lft m s).eraseIdx ((lft m s).idxOf i) = lft m (s ++ [i]) := by
  rw [← List.erase_eq_eraseIdx_of_idxOf rfl]
  unfold lft
  rw [List.Nodup.erase_eq_filter ((rgI_nodup 0 m).sublist List.filter_sublist)]
  rw [List.filter_filter]
  refine List.filter_congr fun x _ => ?_
  simp
  by_cases h : x = i <;> simp [h]
theorem lft_len {m : Int} : ∀ {s : List Int}, s.Nodup → (∀ i ∈ s, 0 ≤ i ∧ i < m) → (lft m s).length + s.length = m.toNat := by
  intro s
  induction s with
  | nil =>
    intro _ _
    unfold lft
    rw [List.filter_eq_self.mpr (by simp), rgI_len]
    simp
  | cons i s ih =>
    intro nd hm
    rw [List.nodup_cons] at nd
    have h1 := ih nd.2 fun j hj => hm j (List.mem_cons_of_mem _ hj)
    have hi := hm i List.mem_cons_self
    have mem : i ∈ lft m s := List.mem_filter.mpr ⟨rgI_mem.mpr hi, by simpa using nd.1⟩
    have e : lft m (i :: s) = (lft m s).erase i := by
      unfold lft
      rw [List.Nodup.erase_eq_filter ((rgI_nodup 0 m).sublist List.filter_sublist), List.filter_filter]
      refine List.filter_congr fun x _ => ?_
      by_cases h : x = i <;> simp [h]
    have : (lft m s).length ≠ 0 := by
      intro z
      rw [List.length_eq_zero_iff.mp z] at mem
      simp at mem
    rw [e, List.length_erase_of_mem mem, List.length_cons]
    omega
theorem lft_nil {m : Int} : lft m [] = rgI 0 m := by
  unfold lft
  exact List.filter_eq_self.mpr (by simp)
theorem sc_lop : FnScope ["m", "row", "place", "at", "lesser", "f"] ["m", "row"] (defScope s_lop) := ⟨rfl, rfl, rfl, by decide +kernel, rfl, by decide +kernel, by decide +kernel⟩
def wOwnPl : DW := fun ds Q _ => ∃ (m : Int) (is : List Int), ds = [.int m, rowT is] ∧ 0 ≤ m ∧ m ≤ 24 ∧ is.Nodup ∧ (∀ i ∈ is, 0 ≤ i ∧ i < m) ∧ Q (.dat (.int (placeL (rgI 0 m) is)))
theorem ok_lop {f : Addr} {fd : FuncData} (F : Fun K "_law_own_place" "_law_own_place" s_lop f fd) (T : Bl mg) (c_law_falling : Cal P w K mg base CX0 "_law_falling" 1 (spD K wLFall)) : FnOk P w K mg base CX0 2 f fd ["m", "row"] (spD K wOwnPl) := by
  refine okD F sc_lop (fun ds Q ex h => ?_) (fun cdv A outer s H E hr md F0 a0 => ⟨_, _,
      (dss_cons (ds_setF (i := 2) sc_lop.nd rfl (Or.inl rfl) de_int)
      (dss_cons (ds_for PassesOwn.never rfl (di_range1 (by rfl) T.n_range (de_callB (klen K) cad_len (by rfl) T.n_len PySem.boot_len (da_cons (de_var (pv 1)) da_nil))) (dg_name (i := 3) sc_lop.nd rfl (Or.inr rfl))
        (dss_cons (ds_setF (i := 4) sc_lop.nd rfl (Or.inl rfl) (de_callB (klen K) cad_len (by rfl) T.n_len PySem.boot_len (da_cons (de_lc (own := [("f", 5)]) rfl sc_lop.nd (di_range1 (by rfl) T.n_range (de_ix (kix_seq K) opd_ix (de_var (pv 1)) (de_var (pv 3)) (fun _ _ => rfl))) (blkOk_by (own := [("f", 5)]) (by show blkC ["m", "row", "place", "at", "lesser", "f"] (defScope s_lop) _ _ = true; decide +kernel)) (fun _ _ _ _ _ _ _ _ => (dg_name (i := 5) sc_lop.nd rfl (Or.inl rfl))) (fun _ _ _ _ _ _ _ _ => (dps_one (dt_cmp (knotin_seq K) opd_in (de_var (pv 5)) (de_slice K (de_var (pv 1)) do_none (do_some (de_var (pv 3)))) (by rfl)))) (fun _ _ _ _ _ _ _ _ => (de_var (pv 5))) (by decide) s) da_nil)))
        (dss_one (ds_setF (i := 2) sc_lop.nd rfl (Or.inl rfl) (de_op (op_addA K) opd_add (de_var (pv 2)) (de_op op_mul opd_I (de_var (pv 4)) (de_call c_law_falling (hr.mono (by decide)) (by rfl) (da_cons (de_op op_sub opd_I0 (de_op op_sub opd_I0 (de_var (pv 0)) (de_var (pv 3))) de_int) (da_cons (de_op op_sub opd_I0 (de_op op_sub opd_I0 (de_callB (klen K) cad_len (by rfl) T.n_len PySem.boot_len (da_cons (de_var (pv 1)) da_nil)) (de_var (pv 3))) de_int) da_nil)))))))))
      (dss_one (ds_ret (de_var (pv 2))))))
      , fun ds Q ex h => ?_⟩)
  · obtain ⟨_, _, rfl, _⟩ := h
    rfl
  · obtain ⟨m, is, rfl, m0, m1, nd, hm, q⟩ := h
    refine sq_go fun S hS => ?_
    walk_at "d"
    refine hS _ (sq_go fun S hS => ?_)
    walk_at "d"
    rw [List.length_map]
    have ilm : is.length ≤ m.toNat := nodup_len (n := m.toNat) nd fun i hi => by have := hm i hi; omega
    have il : is.length ≤ 24 := by omega
    rw [rgD_I]
    refine ⟨by unfold R62; omega, by unfold R62; omega, dFor_ind (fun es ρ => ∃ (k : Nat) (acc : Int) (x y : Option OV), es = (rgI k is.length).map D.int ∧ k ≤ is.length ∧ ρ = [some (OV.dat (.int m)), some (OV.dat (rowT is)), some (OV.dat (.int acc)), x, y, none] ∧ acc + placeL (lft m (is.take k)) (is.drop k) = placeL (rgI 0 m) is) ?_ ?_ _ _ ⟨0, 0, none, none, rfl, Nat.zero_le _, rfl, by rw [List.take_zero, lft_nil]; simp⟩⟩
    · rintro ρ ⟨k, acc, x, y, e1, hk, rfl, e2⟩
      have hk2 := rg_done e1
      obtain rfl : k = is.length := by omega
      rw [List.drop_length] at e2
      have e3 : ∀ l : List Int, placeL l [] = 0 := fun _ => rfl
      rw [e3] at e2
      refine hS _ ?_
      walk_at "d"
      rw [show acc = placeL (rgI 0 m) is by omega]
      exact q
    · rintro x es C ρ ⟨k, acc, x1, y1, e1, hk, rfl, e2⟩ hC
      obtain ⟨hk2, rfl, rfl⟩ := rg_case e1
      have hkl : k < is.length := by omega
      simp only [dgName, List.set_cons_zero, List.set_cons_succ]
      obtain ⟨hi0, hi1⟩ := hm is[k] (List.getElem_mem hkl)
      have ndt : (is.take k).Nodup := nd.sublist (List.take_sublist _ _)
      have hnot : is[k] ∉ is.take k := by
        intro z
        have nd2 := nd
        rw [← List.take_append_drop k is, List.drop_eq_getElem_cons hkl] at nd2
        exact (List.nodup_append.mp nd2).2.2 _ z _ List.mem_cons_self rfl
      have hlen := lft_len ndt fun i hi => hm i (List.mem_of_mem_take hi)
      rw [List.length_take, Nat.min_eq_left hk] at hlen
      have hix := lft_idx hi0 hi1 hnot
      refine sq_go fun S2 hS2 => ?_
      walk_at "d"
      refine ⟨.int is[k], by rw [atI_nat, List.getElem?_map, List.getElem?_eq_getElem hkl]; rfl, ?_⟩
      walk_at "d"
      rw [rgD_I]
      refine ⟨by unfold R62; omega, by unfold R62; omega, dLc_ints (fun f => !decide (f ∈ is.take k)) D.int (by rw [rgI_len]; omega) (fun i _ _ => rfl) (fun i hi Z0 C0 w1 w2 => ?_) ?_⟩
      · walk_at "d"
        rw [cut_to, ← List.map_take]
        refine ⟨rfl, flat_ints _, ?_⟩
        cases e : decide (i ∈ is.take k) with
        | true => exact ite_f (by show ¬ (!inD (.int i) ((is.take k).map D.int)) = true; rw [in_ints, e]; decide) (w2 (by simpa using e))
        | false => exact ite_t (by show (!inD (.int i) ((is.take k).map D.int)) = true; rw [in_ints, e]; rfl) (w1 (by simpa using e) _ _ rfl rfl)
      · refine hS2 _ ?_
        walk_at "d"
        rw [List.length_map, List.length_map, ← hix]
        refine ⟨m - k - 1, (is.length : Int) - k - 1, rfl, by omega, by omega, by omega, ?_⟩
        walk_at "d"
        have hmem : is[k] ∈ lft m (is.take k) := List.mem_filter.mpr ⟨rgI_mem.mpr ⟨hi0, hi1⟩, by simpa using hnot⟩
        have hlt := List.idxOf_lt_length_of_mem hmem
        refine ⟨.inl ⟨by omega, by omega⟩, hC _ ⟨k + 1, _, _, _, rfl, by omega, rfl, ?_⟩⟩
        rw [← e2, List.drop_eq_getElem_cons hkl]
        show _ = acc + (((lft m (is.take k)).idxOf is[k] : Int) * prm (((lft m (is.take k)).length : Int) - 1) ((is.drop (k + 1)).length) + placeL ((lft m (is.take k)).eraseIdx ((lft m (is.take k)).idxOf is[k])) (is.drop (k + 1)))
        rw [lft_erase, ← List.take_succ_eq_append_getElem hkl, List.length_drop, show ((lft m (is.take k)).length : Int) - 1 = m - k - 1 by omega, show ((is.length - (k + 1) : Nat) : Int) = (is.length : Int) - k - 1 by omega]
        omega
end
end Z

set_option Elab.async false
set_option linter.all false
set_option maxRecDepth 100000
namespace Z
open PySem L2
theorem cut_from {xs : List D} {k : Nat} (h : k ≤ xs.length) : cutD xs (some (k : Int)) none = xs.drop k := by
  unfold cutD
  rw [HT.sIx_none, HT.sIx_nat, Nat.min_eq_left h, List.take_of_length_le (by rw [List.length_drop]; omega)]
theorem pl_all {ds : List D} (h : ∀ e ∈ ds, plainD e = true) : plainA (.tup ds) := ⟨rfl, fun es e => by cases e; exact h⟩
theorem pl_ints {ns : List Int} {e : D} (h : e ∈ ns.map D.int) : plainD e = true := by
  obtain ⟨i, _, rfl⟩ := List.mem_map.mp h
  rfl
theorem pl_put {l r : List Int} {y : D} (h : plainD y = true) : plainA (.tup (l.map D.int ++ [y] ++ r.map D.int)) := pl_all fun e he => by
  rcases List.mem_append.mp he with he | he
  · rcases List.mem_append.mp he with he | he
    · exact pl_ints he
    · rw [List.mem_singleton.mp he]; exact h
  · exact pl_ints he
theorem faultA_pre {ns : List Int} (rest : List D) : ∀ (is seen : List Int) (k : Nat), (seen ++ is).Nodup → (∀ i ∈ is, i ∈ ns) → faultA ns (is.map D.int ++ rest) seen k = faultA ns rest (seen ++ is) (k + is.length)
  | [], seen, k, _, _ => by rw [List.append_nil]; rfl
  | i :: is, seen, k, nd, hm => by
    have e : faultA ns (D.int i :: (is.map D.int ++ rest)) seen k = if (ns.contains i && !seen.contains i) = true then faultA ns (is.map D.int ++ rest) (seen ++ [i]) (k + 1) else some k := rfl
    have h1 : i ∈ ns := hm i List.mem_cons_self
    have h2 : i ∉ seen := fun z => (List.nodup_append.mp nd).2.2 i z i List.mem_cons_self rfl
    show faultA ns (D.int i :: (is.map D.int ++ rest)) seen k = _
    rw [e, if_pos (by simp [h1, h2]), faultA_pre rest is (seen ++ [i]) (k + 1) (by rw [List.append_assoc]; exact nd) (fun j hj => hm j (List.mem_cons_of_mem _ hj)), List.append_assoc, List.length_cons, show k + 1 + is.length = k + (is.length + 1) by omega]
    rfl
def badR (ns seen : List Int) (y : D) : Prop := match y with
  | .int i => i ∉ ns ∨ i ∈ seen
  | _ => True
theorem row_put {ns is : List Int} {a : Nat} {y : D} (nd : is.Nodup) (hm : ∀ i ∈ is, i ∈ ns) (ha : a ≤ is.length) (hy : badR ns (is.take a) y) : faultRow ns (.tup ((is.take a).map D.int ++ [y] ++ (is.drop a).map D.int)) = .int a := by
  show atD (faultA ns ((is.take a).map D.int ++ [y] ++ (is.drop a).map D.int) [] 0) = _
  have s : (is.take a).Sublist is := List.take_sublist _ _
  rw [List.append_assoc, faultA_pre _ _ _ _ (nd.sublist s) (fun f h => hm f (s.subset h)), List.length_take, Nat.min_eq_left ha, Nat.zero_add]
  cases y <;> try rfl
  rename_i i
  show atD (if (ns.contains i && !(is.take a).contains i) = true then _ else some a) = _
  rw [if_neg]
  · rfl
  · rcases hy with h | h <;> simp [h]
theorem plainA_ints {d : D} {is : List Int} (h : seqOfD d = some (is.map D.int)) : plainA d := by
  have pd : plainD d = true := by cases d <;> first | rfl | cases h
  refine ⟨pd, fun ds e x hx => ?_⟩
  rw [h] at e
  cases e
  exact pl_ints hx
theorem fault_ok {ns is : List Int} {d : D} (h : seqOfD d = some (is.map D.int)) (nd : is.Nodup) (hm : ∀ i ∈ is, i ∈ ns) : faultRow ns d = .non := by
  unfold faultRow
  rw [h]
  show atD (faultA ns (is.map D.int) [] 0) = _
  have := faultA_pre (ns := ns) [] is [] 0 nd hm
  rw [List.append_nil] at this
  rw [this]
  rfl
theorem exOk_row {n : Nat} {a b : D} {ns : List Int} (ha : tupI a ns) (hb : tupI b ns) (hl : ns.length ≤ 1000) : exOk (n + 2) a b := by
  rw [exOk_s]
  refine .inr ⟨ns.map D.int, ns.map D.int, ha, hb, rfl, by simpa using hl, fun i x y hx hy => ?_⟩
  rw [hx] at hy
  cases hy
  rw [exOk_s]
  rw [List.getElem?_map] at hx
  cases e : ns[i]? with
  | none => rw [e] at hx; cases hx
  | some v =>
    rw [e] at hx
    cases hx
    exact .inl rfl
theorem exOk_two {n : Nat} {a b : D} {x : Str} (hx : PyData.strOk x = true) (h : exOk (n + 1) a b) : exOk (n + 2) (.tup [.str x, a]) (.tup [.str x, b]) := by
  rw [exOk_s]
  refine .inr ⟨_, _, .inl rfl, .inl rfl, rfl, (by show 2 ≤ 1000; decide), fun i p q hp hq => ?_⟩
  match i, hp, hq with
  | 0, hp, hq =>
    cases hp
    cases hq
    rw [exOk_s]
    exact .inl ⟨rfl, hx⟩
  | 1, hp, hq =>
    cases hp
    cases hq
    exact h
theorem exOk_base {n : Nat} {a b : D} (h : exB a b) : exOk (n + 1) a b := by
  rw [exOk_s]
  exact .inl h
theorem seqd_go {x : D} {xs : List D} {t : D} {Q : R → Prop} {ex : EXD} (e1 : seqOfD x = some xs) (e2 : tupOfD x = some t) (h : ∀ (r : R) (d : D), r.isVar = false → (∀ ρ, vl ρ r = d) → (∀ ρ, mvE ρ r = ρ) → d = .lst xs ∨ d = t → Q r) : wSeqd [.hnd, x] Q ex :=
  ⟨x, xs, t, rfl, e1, e2, h (.new xs) (.lst xs) rfl (fun _ => rfl) (fun _ => rfl) (.inl rfl), h (.dat t) t rfl (fun _ => rfl) (fun _ => rfl) (.inr rfl)⟩
theorem eq_lstI {ns ms : List Int} : eqD (.lst (ns.map D.int)) (.lst (ms.map D.int)) = decide (ns = ms) := by
  unfold eqD
  rw [toPy, toPy, toPy_ints, toPy_ints, PyData.eqv, eqv_ints]
theorem shp_lstI {ns : List Int} : shp (.lst (ns.map D.int)) = true := by
  unfold shp SeqAt.shaped
  rw [pyd, pyd_ints, toPy, toPy_ints, PyData.canLay0, canLay_ints, PyData.depth, depth_ints]
  rfl
theorem ne_no {a b : D} {ns : List Int} (ha : tupI a ns) (hb : tupI b ns) : ¬ (!eqD a b) = true := by
  rw [eq_tupI ha hb]
  simp
end Z

set_option Elab.async false
set_option linter.all false
set_option maxRecDepth 100000
namespace Z
open PySem L2
local macro_rules | `(tactic| walk_at "d") => `(tactic| simp only [dSq, dIf, dOr, dAnd, dNot, dTT, dTB, dUn, dBin, dVar, dC, dRet, dNext, dOrV, dAndV, dNotT, dIfE, isiD, OV.isOwn, startD, List.map_cons, List.map_nil, List.cons_append, List.nil_append, List.append_nil, List.length_cons, List.length_nil, List.replicate, Nat.reduceAdd, Nat.reduceSub, Nat.sub_self, Nat.add_sub_cancel,
  List.getElem?_cons_zero, List.getElem?_cons_succ, bOk, iv_d, iv_n, iv_v, nr_d, nr_n, List.any_cons, List.any_nil, Bool.or_false, Bool.or_true, Bool.false_eq_true, Bool.not_true, Bool.not_false, false_implies, true_and, and_true, if_true, if_false, ite_true, ite_false, forall_const, reduceIte, reduceCtorEq,
  d0_1, dI_1, ad_i, ad_t, ad_l, ng_1, dCa, dCons, dNil, dTup, dLst, dEq, dSeq, dRange, dEnum, dRg1, dRg2, dListRg, dTupRg, dSl, dONone, dOSome, dCall, mv_d, mv_n, mv_v, nn_n, nn_b, nn_i, nn_s, nn_l, nn_t, nn_x, nn_d, dSetF, dSetO, dDrop, dFor, dgName, dgTup, dgCons, dgNil, dRetN, dYes, it_1, pm_1, nmR, dXf, dIsE, sq_l, sq_t, sq_x, tr_n, tr_b, tr_i, tr_l, tr_t, tr_x, tr_d, vl_d, vl_n, vl_v, fr_d, fr_o, fr_k, sl_l, sl_t, sl_x, le_1, li_1, tu_1, tu_l, tu_t, tu_x, tx_1, tx_l, tx_t, tx_x, rr_d, rr_n, rr_v, in_1, ix_1, dt_1, isB_1, dCallT, dIdx, dRaise, dAsg, dDnew, List.set_cons_zero, List.set_cons_succ, noOwnAt, List.all_cons, List.all_nil, wipeE, lent, hasOwn, Option.map_some, Option.map_none, dLc, lt_n, pl_n, tyB_n, tyI_n, tyS_n, tyL_n, tyT_n, lt_b, pl_b, tyB_b, tyI_b, tyS_b, tyL_b, tyT_b, lt_i, pl_i, tyB_i, tyI_i, tyS_i, tyL_i, tyT_i, lt_s, pl_s, tyB_s, tyI_s, tyS_s, tyL_s, tyT_s, lt_l, pl_l, tyB_l, tyI_l, tyS_l, tyL_l, tyT_l, lt_t, pl_t, tyB_t, tyI_t, tyS_t, tyL_t, tyT_t, lt_x, pl_x, tyB_x, tyI_x, tyS_x, tyL_x, tyT_x, lt_d, pl_d, tyB_d, tyI_d, tyS_d, tyL_d, tyT_d, noL, noLA, Bool.and_true, Bool.true_and])
local macro_rules | `(tactic| walk_at "e") => `(tactic| first | exact ⟨_, rfl, rfl⟩ | rfl)
abbrev s_nc : Stmt := top 31
abbrev s_spr : Stmt := top 38
/-! ### places and rows -/
theorem prm0 {n : Int} (h : 0 ≤ n) : prm n ((0 : Nat) : Int) = 1 := by
  show PySem.W.mcPerm n 0 = 1
  rw [PySem.W.mcPerm_at (by omega)]
  exact PySem.W.mc_fp_zero _
theorem sub_len : ∀ {is left : List Int}, is.Nodup → (∀ i ∈ is, i ∈ left) → is.length ≤ left.length
  | [], _, _, _ => Nat.zero_le _
  | i :: is, left, nd, h => by
    rw [List.nodup_cons] at nd
    have hi := h i List.mem_cons_self
    have := sub_len (is := is) (left := left.erase i) nd.2 fun j hj => (List.mem_erase_of_ne (by intro z; subst z; exact nd.1 hj)).mpr (h j (List.mem_cons_of_mem _ hj))
    rw [List.length_erase_of_mem hi] at this
    have h2 : left.length ≠ 0 := by
      intro z
      rw [List.length_eq_zero_iff.mp z] at hi
      simp at hi
    rw [List.length_cons]
    omega
theorem place_back : ∀ (is left : List Int), left.Nodup → is.Nodup → (∀ i ∈ is, i ∈ left) → 0 ≤ placeL left is ∧ placeL left is < prm left.length is.length ∧ unplace left is.length (placeL left is) = is
  | [], left, _, _, _ => by
    refine ⟨Int.le_refl _, ?_, rfl⟩
    show (0 : Int) < prm left.length ((0 : Nat) : Int)
    rw [prm0 (by omega)]
    omega
  | i :: is, left, ndl, nd, h => by
    have hsl := sub_len nd h
    rw [List.nodup_cons] at nd
    have hi := h i List.mem_cons_self
    have hk := List.idxOf_lt_length_of_mem hi
    have er : left.eraseIdx (left.idxOf i) = left.erase i := (List.erase_eq_eraseIdx_of_idxOf rfl).symm
    obtain ⟨r0, r1, r2⟩ := place_back is (left.eraseIdx (left.idxOf i)) (ndl.sublist (List.eraseIdx_sublist _ _)) nd.2 fun j hj => by
      rw [er]
      exact (List.mem_erase_of_ne (by intro z; subst z; exact nd.1 hj)).mpr (h j (List.mem_cons_of_mem _ hj))
    have el : (((left.eraseIdx (left.idxOf i)).length : Nat) : Int) = (left.length : Int) - 1 := by rw [List.length_eraseIdx_of_lt hk]; omega
    rw [el] at r1
    rw [List.length_cons] at hsl ⊢
    have p1 : 1 ≤ prm ((left.length : Int) - 1) is.length := prm_pos (by omega)
    have ep : prm left.length ((is.length + 1 : Nat) : Int) = left.length * prm ((left.length : Int) - 1) is.length := prm_left (by omega)
    have e : placeL left (i :: is) = (left.idxOf i : Int) * prm ((left.length : Int) - 1) is.length + placeL (left.eraseIdx (left.idxOf i)) is := rfl
    generalize hp : prm ((left.length : Int) - 1) is.length = p at *
    generalize hr : placeL (left.eraseIdx (left.idxOf i)) is = r at *
    have hq : ((left.idxOf i : Int) * p + r) / p = left.idxOf i := by
      rw [Int.add_comm, Int.add_mul_ediv_right _ _ (by omega), Int.ediv_eq_zero_of_lt r0 r1, Int.zero_add]
    have hm : ((left.idxOf i : Int) * p + r) % p = r := by
      rw [Int.add_comm, Int.add_mul_emod_self_right, Int.emod_eq_of_lt r0 r1]
    refine ⟨?_, ?_, ?_⟩
    · rw [e]
      have : 0 ≤ (left.idxOf i : Int) * p := Int.mul_nonneg (by omega) (by omega)
      omega
    · rw [e, ep]
      have : ((left.idxOf i : Int) + 1) * p ≤ left.length * p := Int.mul_le_mul_of_nonneg_right (by omega) (by omega)
      rw [Int.add_mul, Int.one_mul] at this
      omega
    · have e2 : unplace left (is.length + 1) (placeL left (i :: is)) = left.getD (placeL left (i :: is) / prm ((left.length : Int) - 1) is.length).toNat 0 :: unplace (left.eraseIdx (placeL left (i :: is) / prm ((left.length : Int) - 1) is.length).toNat) is.length (placeL left (i :: is) % prm ((left.length : Int) - 1) is.length) := rfl
      rw [e2, hp, e, hq, hm, Int.toNat_natCast, r2, List.getD_eq_getElem?_getD, List.getElem?_eq_getElem hk, List.getElem_idxOf]
      rfl
theorem unplace_last : ∀ (d : Nat) (left : List Int), d ≤ left.length → unplace left d (prm left.length d - 1) = left.reverse.take d
  | 0, _, _ => by rw [List.take_zero]; rfl
  | d + 1, left, h => by
    rcases List.eq_nil_or_concat left with rfl | ⟨l, x, rfl⟩
    · simp at h
    · rw [List.concat_eq_append] at h ⊢
      rw [List.length_append, List.length_singleton] at h
      have p1 : 1 ≤ prm (l.length : Int) d := prm_pos (by omega)
      have el : (((l ++ [x]).length : Nat) : Int) - 1 = l.length := by rw [List.length_append]; show ((l.length + 1 : Nat) : Int) - 1 = _; omega
      have ep : prm ((l ++ [x]).length : Nat) ((d + 1 : Nat) : Int) = (l.length + 1) * prm (l.length : Int) d := by
        rw [prm_left (by rw [List.length_append]; show (d : Int) + 1 ≤ ((l.length + 1 : Nat) : Int); omega), el, List.length_append]
        rfl
      have e2 : unplace (l ++ [x]) (d + 1) (prm ((l ++ [x]).length : Nat) ((d + 1 : Nat) : Int) - 1) = (l ++ [x]).getD ((prm ((l ++ [x]).length : Nat) ((d + 1 : Nat) : Int) - 1) / prm ((((l ++ [x]).length : Nat) : Int) - 1) d).toNat 0 :: unplace ((l ++ [x]).eraseIdx ((prm ((l ++ [x]).length : Nat) ((d + 1 : Nat) : Int) - 1) / prm ((((l ++ [x]).length : Nat) : Int) - 1) d).toNat) d ((prm ((l ++ [x]).length : Nat) ((d + 1 : Nat) : Int) - 1) % prm ((((l ++ [x]).length : Nat) : Int) - 1) d) := rfl
      rw [e2, ep, el]
      have ih := unplace_last d l (by omega)
      generalize prm (l.length : Int) d = p at *
      have e3 : ((l.length : Int) + 1) * p - 1 = (p - 1) + l.length * p := by rw [Int.add_mul]; omega
      have hq : (((l.length : Int) + 1) * p - 1) / p = l.length := by
        rw [e3, Int.add_mul_ediv_right _ _ (by omega), Int.ediv_eq_zero_of_lt (by omega) (by omega), Int.zero_add]
      have hm : (((l.length : Int) + 1) * p - 1) % p = p - 1 := by
        rw [e3, Int.add_mul_emod_self_right, Int.emod_eq_of_lt (by omega) (by omega)]
      rw [hq, hm, Int.toNat_natCast, List.reverse_append, List.reverse_singleton]
      show _ :: _ = List.take (d + 1) (x :: l.reverse)
      rw [List.take_succ_cons, ← ih]
      congr 1
      · simp
      · congr 1
        rw [List.eraseIdx_append_of_length_le (Nat.le_refl _)]
        simp
theorem rgI_rev {m d : Int} (h0 : 0 ≤ d) (h1 : d ≤ m) : ((rgI 0 m).reverse).take d.toNat = (rgI 0 d).map fun i => m - 1 - i := by
  refine List.ext_getElem ?_ fun i g1 g2 => ?_
  · rw [List.length_take, List.length_reverse, List.length_map, rgI_len, rgI_len]
    omega
  · rw [List.length_map, rgI_len] at g2
    rw [List.getElem_take, List.getElem_reverse, List.getElem_map]
    unfold rgI
    simp only [List.getElem_map, List.getElem_range, List.length_map, List.length_range]
    omega
theorem lenPl_at {m : Int} {pl : Int} : ∀ (e k f : Nat), ((k + e : Nat) : Int) ≤ m → 0 ≤ pl → pl < prm m ((k + e : Nat) : Int) → e < f → lenPl m f k (((rgI k ((k + e : Nat) : Int)).map (prm m)).sum + pl) = (k + e, pl)
  | 0, k, f + 1, h, p0, p1, _ => by
    rw [Nat.add_zero] at p1 ⊢
    rw [show rgI (k : Int) ((k + 0 : Nat) : Int) = [] from rgI_nil' (by omega), List.map_nil, List.sum_nil, Int.zero_add]
    show (if prm m k ≤ pl then _ else _) = _
    rw [if_neg (by omega)]
    rfl
  | e + 1, k, f + 1, h, p0, p1, hf => by
    have e1 : rgI k ((k + (e + 1) : Nat) : Int) = (k : Int) :: rgI ((k + 1 : Nat) : Int) ((k + 1 + e : Nat) : Int) := by
      rw [show k + (e + 1) = k + 1 + e by omega]
      exact rgI_cons (by omega)
    have nn : 0 ≤ ((rgI ((k + 1 : Nat) : Int) ((k + 1 + e : Nat) : Int)).map (prm m)).sum := by
      have gen : ∀ l : List Int, (∀ x ∈ l, 0 ≤ x) → 0 ≤ l.sum := by
        intro l
        induction l with
        | nil => intro _; simp
        | cons a l ih =>
          intro h
          rw [List.sum_cons]
          have h1 := h a List.mem_cons_self
          have h2 := ih fun x hx => h x (List.mem_cons_of_mem _ hx)
          omega
      refine gen _ fun x hx => ?_
      obtain ⟨j, hj, rfl⟩ := List.mem_map.mp hx
      have hm := rgI_mem.mp hj
      have : 1 ≤ prm m ((j.toNat : Nat) : Int) := prm_pos (by omega)
      rw [show ((j.toNat : Nat) : Int) = j by omega] at this
      omega
    rw [e1, List.map_cons, List.sum_cons]
    show (if prm m k ≤ _ then lenPl m f (k + 1) _ else _) = _
    rw [if_pos (by omega)]
    have ih := lenPl_at (m := m) (pl := pl) e (k + 1) f (by omega) p0 (by rw [show k + 1 + e = k + (e + 1) by omega]; exact p1) (by omega)
    rw [show prm m k + ((rgI ((k + 1 : Nat) : Int) ((k + 1 + e : Nat) : Int)).map (prm m)).sum + pl - prm m k = ((rgI ((k + 1 : Nat) : Int) ((k + 1 + e : Nat) : Int)).map (prm m)).sum + pl by omega, ih]
    rw [show k + 1 + e = k + (e + 1) by omega]
theorem numRow_at {m pl : Int} {d : Nat} (h : (d : Int) ≤ m) (p0 : 0 ≤ pl) (p1 : pl < prm m d) : numRow m (shorterI m d + pl) = unplace (rgI 0 m) d pl := by
  have := lenPl_at (m := m) (pl := pl) d 0 (m.toNat + 1) (by omega) p0 (by rw [Nat.zero_add]; exact p1) (by omega)
  rw [Nat.zero_add] at this
  unfold numRow shorterI
  rw [show ((0 : Nat) : Int) = 0 from rfl] at this
  rw [this]
section
variable {P : Program} {w : World} {K : PySem.W.Frag} {mg : Str → Option Value} {base : Heap}
/-! ### wrong things -/
theorem sc_nc : FnScope ["hand", "most"] ["hand", "most"] (defScope s_nc) := ⟨rfl, rfl, rfl, by decide +kernel, rfl, by decide +kernel, by decide +kernel⟩
def wNoCount : DW := fun ds Q _ => ∃ m : Int, ds = [.hnd, .int m] ∧ 0 ≤ m ∧ ∀ d, plainD d = true → wholeD d (some 0) (some m) = false → (∀ i, d = .int i → i < 0 ∨ m < i) → Q (.dat d)
theorem ok_nc {f : Addr} {fd : FuncData} (F : Fun K "_law_no_count" "_law_no_count" s_nc f fd) (T : Bl mg) (c_law_draw : Cal P w K mg base CX0 "_law_draw" 2 (spD K wDraw)) : FnOk P w K mg base CX0 3 f fd ["hand", "most"] (spD K wNoCount) := by
  refine okD F sc_nc (fun ds Q ex h => ?_) (fun cdv A outer s H E hr md F0 a0 => ⟨_, _,
      (dss_one (ds_ret (de_ix (kix_seq K) opd_ix (de_lst (da_cons de_non (da_cons (de_un un_neg und_neg de_int) (da_cons (de_op (op_addA K) opd_add (de_var (pv 1)) de_int) (da_cons de_bl (da_cons de_str (da_cons (de_tup (da_cons de_int da_nil)) (da_cons (de_op (op_addA K) opd_add (de_var (pv 1)) de_int) (da_cons (de_lst (da_cons de_int da_nil)) (da_cons de_bl (da_cons (de_un un_neg und_neg de_int) da_nil))))))))))) (de_call c_law_draw (hr.mono (by decide)) (by rfl) (da_cons (de_var (pv 0)) (da_cons de_int da_nil))) (fun _ _ => rfl))))
      , fun ds Q ex h => ?_⟩)
  · obtain ⟨_, rfl, _⟩ := h
    rfl
  · obtain ⟨m, rfl, m0, q⟩ := h
    have big : ∀ i : Int, m < i → Q (.dat (.int i)) := fun i hi => q _ rfl (by show (decide (0 ≤ i) && decide (i ≤ m)) = false; rw [decide_eq_false (show ¬ i ≤ m by omega), Bool.and_false]) fun j e => by cases e; exact .inr hi
    have neg : ∀ i : Int, i < 0 → Q (.dat (.int i)) := fun i hi => q _ rfl (by show (decide (0 ≤ i) && decide (i ≤ m)) = false; rw [decide_eq_false (show ¬ 0 ≤ i by omega), Bool.false_and]) fun j e => by cases e; exact .inl hi
    have oth : ∀ d, plainD d = true → (∀ i, d ≠ .int i) → Q (.dat d) := fun d pd h => q d pd (by cases d <;> first | rfl | exact absurd rfl (h _)) fun j e => absurd e (h j)
    walk_at "d"
    refine ⟨by decide, by decide, by decide, 10, rfl, by decide, by decide, fun d d0 d1 => ?_⟩
    walk_at "d"
    have hd : d = 0 ∨ d = 1 ∨ d = 2 ∨ d = 3 ∨ d = 4 ∨ d = 5 ∨ d = 6 ∨ d = 7 ∨ d = 8 ∨ d = 9 := by omega
    rcases hd with rfl | rfl | rfl | rfl | rfl | rfl | rfl | rfl | rfl | rfl
    · exact ⟨_, rfl, oth _ rfl fun i z => by cases z⟩
    · exact ⟨_, rfl, neg _ (by decide)⟩
    · exact ⟨_, rfl, big _ (by omega)⟩
    · exact ⟨_, rfl, oth _ rfl fun i z => by cases z⟩
    · exact ⟨_, rfl, oth _ rfl fun i z => by cases z⟩
    · exact ⟨_, rfl, oth _ rfl fun i z => by cases z⟩
    · exact ⟨_, rfl, big _ (by omega)⟩
    · exact ⟨_, rfl, oth _ rfl fun i z => by cases z⟩
    · exact ⟨_, rfl, oth _ rfl fun i z => by cases z⟩
    · exact ⟨_, rfl, neg _ (by decide)⟩
theorem row_bad {ns is : List Int} {a : Nat} {y : D} {rest : List D} (nd : is.Nodup) (hm : ∀ i ∈ is, i ∈ ns) (ha : a ≤ is.length) (hy : badR ns (is.take a) y) : faultRow ns (.tup ((is.take a).map D.int ++ [y] ++ rest)) = .int a := by
  show atD (faultA ns ((is.take a).map D.int ++ [y] ++ rest) [] 0) = _
  have s : (is.take a).Sublist is := List.take_sublist _ _
  rw [List.append_assoc, faultA_pre _ _ _ _ (nd.sublist s) (fun f h => hm f (s.subset h)), List.length_take, Nat.min_eq_left ha, Nat.zero_add]
  cases y <;> try rfl
  rename_i i
  show atD (if (ns.contains i && !(is.take a).contains i) = true then _ else some a) = _
  rw [if_neg]
  · rfl
  · rcases hy with h | h <;> simp [h]
theorem cut_any {is : List Int} {k : Nat} : cutD (is.map D.int) (some (k : Int)) none = (is.drop k).map D.int := by
  by_cases h : k ≤ is.length
  · rw [cut_from (by simpa using h), List.map_drop]
  · unfold cutD
    rw [HT.sIx_none, HT.sIx_nat, List.length_map, Nat.min_eq_right (by omega), List.drop_of_length_le (by simp), List.drop_of_length_le (by omega)]
    simp
theorem sc_spr : FnScope ["hand", "m", "row", "at", "way"] ["hand", "m", "row"] (defScope s_spr) := ⟨rfl, rfl, rfl, by decide +kernel, rfl, by decide +kernel, by decide +kernel⟩
def wSpoilt : DW := fun ds Q _ => ∃ (m : Int) (is : List Int), ds = [.hnd, .int m, rowT is] ∧ is.Nodup ∧ (∀ i ∈ is, 0 ≤ i ∧ i < m) ∧ is.length ≤ 24 ∧ ∀ x k, plainA x → faultRow (rgI 0 m) x = .int k → Q (.dat (.tup [x, .int k]))
theorem ok_spr {f : Addr} {fd : FuncData} (F : Fun K "_law_spoilt_row" "_law_spoilt_row" s_spr f fd) (T : Bl mg) (c_law_draw : Cal P w K mg base CX0 "_law_draw" 2 (spD K wDraw)) (c_law_no_count : Cal P w K mg base CX0 "_law_no_count" 3 (spD K wNoCount)) : FnOk P w K mg base CX0 4 f fd ["hand", "m", "row"] (spD K wSpoilt) := by
  refine okD F sc_spr (fun ds Q ex h => ?_) (fun cdv A outer s H E hr md F0 a0 => ⟨_, _,
      (dss_cons (ds_setF (i := 3) sc_spr.nd rfl (Or.inl rfl) (de_call c_law_draw (hr.mono (by decide)) (by rfl) (da_cons (de_var (pv 0)) (da_cons (de_op (op_addA K) opd_add (de_callB (klen K) cad_len (by rfl) T.n_len PySem.boot_len (da_cons (de_var (pv 2)) da_nil)) de_int) da_nil))))
      (dss_cons (ds_setF (i := 4) sc_spr.nd rfl (Or.inl rfl) (de_call c_law_draw (hr.mono (by decide)) (by rfl) (da_cons (de_var (pv 0)) (da_cons de_int da_nil))))
      (dss_cons (ds_if (dt_cmp (keqD K hr.units) opd_eq (de_var (pv 4)) de_int (nomark _))
        (dss_one (ds_ret (de_tup (da_cons (de_ix (kix_seq K) opd_ix (de_lst (da_cons de_non (da_cons de_int (da_cons de_str (da_cons de_bl da_nil))))) (de_call c_law_draw (hr.mono (by decide)) (by rfl) (da_cons (de_var (pv 0)) (da_cons de_int da_nil))) (fun _ _ => rfl)) (da_cons (de_un un_neg und_neg de_int) da_nil)))))
        dss_nil)
      (dss_cons (ds_if (DWs.ts (dw_and (dt_cmp op_lt opd_B0 (de_var (pv 4)) de_int (nomark _)) (dw_and1 (dt_cmp op_gt opd_B0 (de_var (pv 3)) de_int (nomark _)))))
        (dss_one (ds_ret (de_tup (da_cons (de_op (op_addA K) opd_add (de_op (op_addA K) opd_add (de_slice K (de_var (pv 2)) do_none (do_some (de_var (pv 3)))) (de_tup (da_cons (de_ix (kix_seq K) opd_ix (de_var (pv 2)) (de_call c_law_draw (hr.mono (by decide)) (by rfl) (da_cons (de_var (pv 0)) (da_cons (de_var (pv 3)) da_nil))) (fun _ _ => rfl)) da_nil))) (de_slice K (de_var (pv 2)) (do_some (de_var (pv 3))) do_none)) (da_cons (de_var (pv 3)) da_nil)))))
        dss_nil)
      (dss_one (ds_ret (de_tup (da_cons (de_op (op_addA K) opd_add (de_op (op_addA K) opd_add (de_slice K (de_var (pv 2)) do_none (do_some (de_var (pv 3)))) (de_tup (da_cons (de_ifExp (dt_cmp op_gt opd_B0 (de_var (pv 1)) de_int (nomark _)) (de_call c_law_no_count (hr.mono (by decide)) (by rfl) (da_cons (de_var (pv 0)) (da_cons (de_op op_sub opd_I0 (de_var (pv 1)) de_int) da_nil))) de_non) da_nil))) (de_slice K (de_var (pv 2)) (do_some (de_op (op_addA K) opd_add (de_var (pv 3)) de_int)) do_none)) (da_cons (de_var (pv 3)) da_nil)))))))))
      , fun ds Q ex h => ?_⟩)
  · obtain ⟨_, _, rfl, _⟩ := h
    rfl
  · obtain ⟨m, is, rfl, nd, hm, hl, q⟩ := h
    refine sq_go fun S hS => ?_
    walk_at "d"
    rw [List.length_map]
    refine ⟨is.length + 1, rfl, by omega, by omega, fun at_ a0 a1 => ?_⟩
    walk_at "d"
    refine hS _ (sq_go fun S hS => ?_)
    walk_at "d"
    refine ⟨9, rfl, by decide, by decide, fun way w0 w1 => ?_⟩
    walk_at "d"
    refine hS _ ?_
    clear hS S
    obtain ⟨a, rfl⟩ : ∃ a : Nat, at_ = a := ⟨at_.toNat, by omega⟩
    have ha : a ≤ is.length := by omega
    have sz : ∀ n : Nat, n ≤ 100 → n ≤ sizeLine := fun n h => Nat.le_trans h (by decide)
    have e1 : cutD (is.map D.int) none (some (a : Int)) = (is.take a).map D.int := by rw [cut_to, List.map_take]
    have put : ∀ (t : Nat) (y : D), plainD y = true → badR (rgI 0 m) (is.take a) y → (cutD (is.map D.int) none (some (a : Int))).length + 1 ≤ sizeLine ∧ (cutD (is.map D.int) none (some (a : Int)) ++ [y]).length + (cutD (is.map D.int) (some (t : Int)) none).length ≤ sizeLine ∧
        2 ≤ sizeLine ∧ Q (.dat (.tup [.tup (cutD (is.map D.int) none (some (a : Int)) ++ [y] ++ cutD (is.map D.int) (some (t : Int)) none), .int a])) := fun t y py hy => by
      rw [e1, cut_any]
      refine ⟨sz _ ?_, sz _ ?_, sz _ (by decide), q _ _ (pl_put py) (row_bad nd (fun i hi => rgI_mem.mpr (hm i hi)) ha hy)⟩
      · rw [List.length_map, List.length_take]; omega
      · rw [List.length_append, List.length_map, List.length_map, List.length_take, List.length_drop]; show min a is.length + 1 + _ ≤ _; omega
    have badI : ∀ d, (∀ i, d = .int i → i < 0 ∨ m - 1 < i) → badR (rgI 0 m) (is.take a) d := fun d h => by
      cases d <;> try trivial
      rename_i i
      refine .inl fun z => ?_
      have := rgI_mem.mp z
      have := h i rfl
      omega
    walk_at "d"

    refine ⟨rfl, rfl, ite_b ?_ (ite_b (ite_d (fun c2 => ?_) (fun _ => ?_)) ?_)⟩
    · refine ⟨by decide, 4, rfl, by decide, by decide, fun d d0 d1 => ?_⟩
      walk_at "d"
      have hd : d = 0 ∨ d = 1 ∨ d = 2 ∨ d = 3 := by omega
      rcases hd with rfl | rfl | rfl | rfl <;> exact ⟨_, rfl, by decide, q _ _ ⟨rfl, fun es e => by cases e⟩ rfl⟩
    · have c2 : 0 < a := by simpa using c2
      refine ⟨a, rfl, by omega, by omega, fun d d0 d1 => ?_⟩
      walk_at "d"
      obtain ⟨j, rfl⟩ : ∃ j : Nat, d = j := ⟨d.toNat, by omega⟩
      have hj : j < is.length := by omega
      refine ⟨.int is[j], by rw [atI_nat, List.getElem?_map, List.getElem?_eq_getElem hj]; rfl, ?_⟩
      exact ⟨by decide, put a (.int is[j]) rfl (.inr (List.mem_take_iff_getElem.mpr ⟨j, by omega, rfl⟩))⟩
    all_goals
      refine ite_d (fun c => ?_) (fun _ => ⟨by decide, put (a + 1) .non rfl trivial⟩)
      have c : 1 < m := by simpa using c
      exact ⟨m - 1, rfl, by omega, fun d pd _ hd => ⟨by decide, (fun z => by cases z), put (a + 1) d pd (badI d hd)⟩⟩
end
end Z

set_option Elab.async false
set_option linter.all false
set_option maxRecDepth 100000
namespace Z
open PySem L2
local macro_rules | `(tactic| walk_at "d") => `(tactic| simp only [dSq, dIf, dOr, dAnd, dNot, dTT, dTB, dUn, dBin, dVar, dC, dRet, dNext, dOrV, dAndV, dNotT, dIfE, isiD, OV.isOwn, startD, List.map_cons, List.map_nil, List.cons_append, List.nil_append, List.append_nil, List.length_cons, List.length_nil, List.replicate, Nat.reduceAdd, Nat.reduceSub, Nat.sub_self, Nat.add_sub_cancel,
  List.getElem?_cons_zero, List.getElem?_cons_succ, bOk, iv_d, iv_n, iv_v, nr_d, nr_n, List.any_cons, List.any_nil, Bool.or_false, Bool.or_true, Bool.false_eq_true, Bool.not_true, Bool.not_false, false_implies, true_and, and_true, if_true, if_false, ite_true, ite_false, forall_const, reduceIte, reduceCtorEq,
  d0_1, dI_1, ad_i, ad_t, ad_l, ng_1, dCa, dCons, dNil, dTup, dLst, dEq, dSeq, dRange, dEnum, dRg1, dRg2, dListRg, dTupRg, dSl, dONone, dOSome, dCall, mv_d, mv_n, mv_v, nn_n, nn_b, nn_i, nn_s, nn_l, nn_t, nn_x, nn_d, dSetF, dSetO, dDrop, dFor, dgName, dgTup, dgCons, dgNil, dRetN, dYes, it_1, pm_1, nmR, dXf, dIsE, sq_l, sq_t, sq_x, tr_n, tr_b, tr_i, tr_l, tr_t, tr_x, tr_d, vl_d, vl_n, vl_v, fr_d, fr_o, fr_k, sl_l, sl_t, sl_x, le_1, li_1, tu_1, tu_l, tu_t, tu_x, tx_1, tx_l, tx_t, tx_x, rr_d, rr_n, rr_v, in_1, ix_1, dt_1, isB_1, dCallT, dIdx, dRaise, dAsg, dDnew, List.set_cons_zero, List.set_cons_succ, noOwnAt, List.all_cons, List.all_nil, wipeE, lent, hasOwn, Option.map_some, Option.map_none, dLc, lt_n, pl_n, tyB_n, tyI_n, tyS_n, tyL_n, tyT_n, lt_b, pl_b, tyB_b, tyI_b, tyS_b, tyL_b, tyT_b, lt_i, pl_i, tyB_i, tyI_i, tyS_i, tyL_i, tyT_i, lt_s, pl_s, tyB_s, tyI_s, tyS_s, tyL_s, tyT_s, lt_l, pl_l, tyB_l, tyI_l, tyS_l, tyL_l, tyT_l, lt_t, pl_t, tyB_t, tyI_t, tyS_t, tyL_t, tyT_t, lt_x, pl_x, tyB_x, tyI_x, tyS_x, tyL_x, tyT_x, lt_d, pl_d, tyB_d, tyI_d, tyS_d, tyL_d, tyT_d, noL, noLA, Bool.and_true, Bool.true_and])
local macro_rules | `(tactic| walk_at "e") => `(tactic| first | exact ⟨_, rfl, rfl⟩ | rfl)
abbrev s_orw : Stmt := top 34
abbrev s_ask : Stmt := top 33
abbrev s_lcl : Stmt := top 40
section
variable {P : Program} {w : World} {K : PySem.W.Frag} {mg : Str → Option Value} {base : Heap}
/-! ### the asking -/
abbrev tD (x : D) : D := .tup [.str "told", x]
abbrev cD (k : Int) : D := .tup [.str "count", .int k]
abbrev rD (k : Int) : D := .tup [.str "row", .int k]
abbrev pD : D := .tup [.str "place"]
def gRow : Int → Int → List Int → D → Prop := fun i n is t => (i = 2 ∧ tupI t is) ∨ (i = 3 ∧ t = .int (placeL (rgI 0 n) is)) ∨ (i = 4 ∧ t = .int (placeL (rgI 0 n) is + shorterI n is.length))
theorem sc_orw : FnScope ["which", "m", "row"] ["which", "m", "row"] (defScope s_orw) := ⟨rfl, rfl, rfl, by decide +kernel, rfl, by decide +kernel, by decide +kernel⟩
def wOfRow (cc cr : Addr) : DW := fun ds Q ex => ∃ (i : Int) (d row : D), ds = [.int i, d, row] ∧ (i = 2 ∨ i = 3 ∨ i = 4) ∧ plainD d = true ∧ plainA row ∧ rowEx cc cr d row ex ∧
  ∀ n is, d = .int n → 0 ≤ n → n ≤ 24 → faultRow (rgI 0 n) row = .non → seqOfD row = some (is.map D.int) → ∀ t, gRow i n is t → Q (.dat t)
theorem ok_orw {cc cr f : Addr} {fd : FuncData} (F : Fun K "_law_of_row" "_law_of_row" s_orw f fd) (T : Bl mg) (ccheck_row : Cal P w K mg base (L2.CX P w) "check_row" 4 (spD K (wCheckRow cc cr))) (crow_place : Cal P w K mg base (L2.CX P w) "row_place" 5 (spD K (wPlace cc cr))) (crow_number : Cal P w K mg base (L2.CX P w) "row_number" 6 (spD K (wNumber cc cr))) :
    FnOk P w K mg base (L2.CX P w) 7 f fd ["which", "m", "row"] (spD K (wOfRow cc cr)) := by
  refine okDX F sc_orw (fun ds Q ex h => ?_) (fun cdv A outer s H E hr md F0 a0 ex hl => ⟨_, _,
      (dss_cons (ds_if (dt_cmp (keqD K hr.units) opd_eq (de_var (pv 0)) de_int (nomark _))
        (dss_one (ds_ret (de_callT ccheck_row.v (hr.mono (by decide)) (by rfl) (takes_of rfl rfl rfl rfl) (lxt_fn hl) (fun _ => .nil) (da_cons (de_var (pv 1)) (da_cons (de_var (pv 2)) da_nil)))))
        dss_nil)
      (dss_one (ds_ret (de_ifExp (dt_cmp (keqD K hr.units) opd_eq (de_var (pv 0)) de_int (nomark _)) (de_callT crow_place.v (hr.mono (by decide)) (by rfl) (takes_of rfl rfl rfl rfl) (lxt_fn hl) (fun _ => .nil) (da_cons (de_var (pv 1)) (da_cons (de_var (pv 2)) da_nil))) (de_callT crow_number.v (hr.mono (by decide)) (by rfl) (takes_of rfl rfl rfl rfl) (lxt_fn hl) (fun _ => .nil) (da_cons (de_var (pv 1)) (da_cons (de_var (pv 2)) da_nil)))))))
      , fun ds Q h => ?_⟩)
  · obtain ⟨_, _, _, rfl, _⟩ := h
    rfl
  · obtain ⟨i, d, row, rfl, hi, pd, pr, h1, h2⟩ := h
    walk_at "d"
    rcases hi with rfl | rfl | rfl
    · refine ⟨rfl, rfl, ite_t rfl ⟨d, row, rfl, pd, pr, h1, fun n is en a b ef ei t ht => h2 n is en a b ef ei t (.inl ⟨rfl, ht⟩)⟩⟩
    · refine ⟨rfl, rfl, ite_f (by show ¬ ((3 : Int) == 2) = true; decide) ⟨rfl, rfl, ite_t rfl ⟨d, row, rfl, pd, pr, h1, fun n is en a b ef ei => h2 n is en a b ef ei _ (.inr (.inl ⟨rfl, rfl⟩))⟩⟩⟩
    · refine ⟨rfl, rfl, ite_f (by show ¬ ((4 : Int) == 2) = true; decide) ⟨rfl, rfl, ite_f (by show ¬ ((4 : Int) == 3) = true; decide) ⟨d, row, rfl, pd, pr, h1, fun n is en a b ef ei => h2 n is en a b ef ei _ (.inr (.inr ⟨rfl, rfl⟩))⟩⟩⟩
def aRow (i : Int) (a b : D) (A : D → Prop) : Prop := plainD a = true ∧ plainA b ∧ (wholeD a (some 0) (some 24) = false → A (cD 24)) ∧ (∀ n k, a = .int n → 0 ≤ n → n ≤ 24 → faultRow (rgI 0 n) b = .int k → A (rD k)) ∧
  ∀ n is, a = .int n → 0 ≤ n → n ≤ 24 → faultRow (rgI 0 n) b = .non → seqOfD b = some (is.map D.int) → ∀ t, gRow i n is t → A (tD t)
def a5 (a b c : D) (A : D → Prop) : Prop := plainD a = true ∧ plainD b = true ∧ plainD c = true ∧ (wholeD a (some 0) (some 24) = false → A (cD 24)) ∧ (∀ m, a = .int m → 0 ≤ m → m ≤ 24 → wholeD b (some 0) (some m) = false → A (cD m)) ∧
  (∀ m d, a = .int m → b = .int d → 0 ≤ m → m ≤ 24 → 0 ≤ d → d ≤ m → wholeD c (some 0) (some (prm m d - 1)) = false → A pD) ∧
  ∀ m d pl, a = .int m → b = .int d → c = .int pl → 0 ≤ m → m ≤ 24 → 0 ≤ d → d ≤ m → 0 ≤ pl → pl < prm m d → A (tD (rowT (unplace (rgI 0 m) d.toNat pl)))
def a6 (a b : D) (A : D → Prop) : Prop := plainD a = true ∧ plainD b = true ∧ (wholeD a (some 0) (some 24) = false → A (cD 24)) ∧ (∀ m, a = .int m → 0 ≤ m → m ≤ 24 → wholeD b (some 0) (some (allI m - 1)) = false → A pD) ∧
  ∀ m n, a = .int m → b = .int n → 0 ≤ m → m ≤ 24 → 0 ≤ n → n < allI m → A (tD (rowT (numRow m n)))
def a7 (a b : D) (A : D → Prop) : Prop := plainD a = true ∧ plainD b = true ∧ (wholeD a (some 0) (some 24) = false ∨ wholeD b (some 0) (some 24) = false → A (cD 24)) ∧ ∀ m d, a = .int m → b = .int d → 0 ≤ m → m ≤ 24 → 0 ≤ d → d ≤ 24 → A (tD (.int (prm m d)))
def wAsked : DW := fun ds Q _ => ∃ (i : Int) (a b c : D), ds = [.int i, a, b, c] ∧
  ((i = 0 ∧ plainD a = true ∧ (wholeD a (some 0) (some 24) = false → Q (.dat (cD 24))) ∧ (wholeD a (some 0) (some 24) = true → Q (.dat (tD a)))) ∨
   (i = 1 ∧ plainD a = true ∧ ∃ m, b = .int m ∧ (wholeD a (some 0) (some m) = false → Q (.dat (cD m))) ∧ (wholeD a (some 0) (some m) = true → Q (.dat (tD a)))) ∨
   ((i = 2 ∨ i = 3 ∨ i = 4) ∧ aRow i a b fun d => Q (.dat d)) ∨ (i = 5 ∧ a5 a b c fun d => Q (.dat d)) ∨ (i = 6 ∧ a6 a b fun d => Q (.dat d)) ∨ (i = 7 ∧ a7 a b fun d => Q (.dat d)) ∨
   (i = 8 ∧ plainD a = true ∧ (wholeD a (some 0) (some 24) = false → Q (.dat (cD 24))) ∧ ∀ m, a = .int m → 0 ≤ m → m ≤ 24 → Q (.dat (tD (.int (allI m))))) ∨
   (i = 9 ∧ plainD a = true ∧ wholeD a (some 0) (some 6) = false ∧ Q (.dat (cD 6))))
structure Errs (K : PySem.W.Frag) (cc cr cp : Addr) : Prop where
  x1 : PySem.W.exmOne K (.ref cc) (.ref cc) = some true
  x2 : PySem.W.exmOne K (.ref cr) (.ref cc) = some false
  x4 : PySem.W.exmOne K (.ref cr) (.ref cr) = some true
  x5 : PySem.W.exmOne K (.ref cp) (.ref cc) = some false
  x6 : PySem.W.exmOne K (.ref cp) (.ref cr) = some false
  x7 : PySem.W.exmOne K (.ref cp) (.ref cp) = some true
  s1 : PySem.W.subIn K (.ref cc) (.type "StopIteration") = some false
  f1 : XfC K cc
  f2 : XfC K cr
  o1 : PySem.W.findIn K (.ref cc) "most" = some none
  o2 : PySem.W.findIn K (.ref cr) "at" = some none
theorem sc_ask : FnScope ["which", "one", "two", "three", "raised"] ["which", "one", "two", "three"] (defScope s_ask) := ⟨rfl, rfl, rfl, by decide +kernel, rfl, by decide +kernel, by decide +kernel⟩
theorem ok_ask {cc cr cp f : Addr} {fd : FuncData} (F : Fun K "_law_asked" "_law_asked" s_ask f fd) (T : Bl mg) (V : Errs K cc cr cp) (g1 : mg "BadCount" = some (.ref cc)) (g2 : mg "BadRow" = some (.ref cr)) (g3 : mg "BadPlace" = some (.ref cp))
    (ccheck_count : Cal P w K mg base (L2.CX P w) "check_count" 3 (spD K (wCount cc))) (dcheck_count_1 : CalV P w K mg base (L2.CX P w) "check_count" 3 (spD K (wCount cc)) [.int 24]) (c_law_of_row : Cal P w K mg base (L2.CX P w) "_law_of_row" 7 (spD K (wOfRow cc cr)))
    (crow_at : Cal P w K mg base (L2.CX P w) "row_at" 4 (spD K (wRowAt cc cp))) (crow_numbered : Cal P w K mg base (L2.CX P w) "row_numbered" 5 (spD K (wNumbered cc cp))) (ccount_falling : Cal P w K mg base (L2.CX P w) "count_falling" 4 (spD K (wFall cc)))
    (ccount_all_rows : Cal P w K mg base (L2.CX P w) "count_all_rows" 4 (spD K (wAll cc))) (gall_rows : CalG P w K mg base "all_rows" 5 (spG K (wAllRows cc))) :
    FnOk P w K mg base CX0 9 f fd ["which", "one", "two", "three"] (spD K wAsked) := by
  refine okD F sc_ask (fun ds Q ex h => ?_) (fun cdv A outer s H E hr md F0 a0 => ⟨_, _,
      (dss_one (ds_try rfl rfl sc_ask.nd takesF lxtF (fun F0 H0 a0 W pn xe tk exE lx =>
        (dss_cons (ds_if (dt_cmp op_lt opd_B0 (de_var (pv 0)) de_int (nomark _))
          (dss_one (ds_ret (de_tup (da_cons de_str (da_cons (de_ifExp (dt_cmp (keqD K hr.units) opd_eq (de_var (pv 0)) de_int (nomark _)) (de_callT dcheck_count_1 (hr.mono (by decide)) (by rfl) tk lx (fun _ => (.cons (.int 24) .nil)) (da_cons (de_var (pv 1)) da_nil)) (de_callT ccheck_count.v (hr.mono (by decide)) (by rfl) tk lx (fun _ => .nil) (da_cons (de_var (pv 1)) (da_cons (de_var (pv 2)) da_nil)))) da_nil)))))
          dss_nil)
        (dss_cons (ds_if (dt_cmp op_lt opd_B0 (de_var (pv 0)) de_int (nomark _))
          (dss_one (ds_ret (de_tup (da_cons de_str (da_cons (de_callT c_law_of_row.v (hr.mono (by decide)) (by rfl) tk lx (fun _ => .nil) (da_cons (de_var (pv 0)) (da_cons (de_var (pv 1)) (da_cons (de_var (pv 2)) da_nil)))) da_nil)))))
          dss_nil)
        (dss_cons (ds_if (dt_cmp (keqD K hr.units) opd_eq (de_var (pv 0)) de_int (nomark _))
          (dss_one (ds_ret (de_tup (da_cons de_str (da_cons (de_callT crow_at.v (hr.mono (by decide)) (by rfl) tk lx (fun _ => .nil) (da_cons (de_var (pv 1)) (da_cons (de_var (pv 2)) (da_cons (de_var (pv 3)) da_nil)))) da_nil)))))
          dss_nil)
        (dss_cons (ds_if (dt_cmp (keqD K hr.units) opd_eq (de_var (pv 0)) de_int (nomark _))
          (dss_one (ds_ret (de_tup (da_cons de_str (da_cons (de_callT crow_numbered.v (hr.mono (by decide)) (by rfl) tk lx (fun _ => .nil) (da_cons (de_var (pv 1)) (da_cons (de_var (pv 2)) da_nil))) da_nil)))))
          dss_nil)
        (dss_cons (ds_if (dt_cmp (keqD K hr.units) opd_eq (de_var (pv 0)) de_int (nomark _))
          (dss_one (ds_ret (de_tup (da_cons de_str (da_cons (de_callT ccount_falling.v (hr.mono (by decide)) (by rfl) tk lx (fun _ => .nil) (da_cons (de_var (pv 1)) (da_cons (de_var (pv 2)) da_nil))) da_nil)))))
          dss_nil)
        (dss_one (ds_ret (de_tup (da_cons de_str (da_cons (de_ifExp (dt_cmp (keqD K hr.units) opd_eq (de_var (pv 0)) de_int (nomark _)) (de_callT ccount_all_rows.v (hr.mono (by decide)) (by rfl) tk lx (fun _ => .nil) (da_cons (de_var (pv 1)) da_nil)) (de_callB (klen K) cad_len (by rfl) T.n_len PySem.boot_len (da_cons (de_listG gall_rows (hr.mono (by decide)) (by rfl) (by rfl) T.n_list tk lx (da_cons (de_var (pv 1)) da_nil)) da_nil))) da_nil)))))))))))
        (.cons ⟨(by rfl), (by decide), .inl g1⟩ (o := some 4) ⟨rfl, rfl⟩ (fun F0 H0 a0 a oe cls d pn hz hf =>
          (dss_one (ds_ret (de_tup (da_cons de_str (da_cons (de_xf V.f1 V.o1 hz hf (de_var (pv 4))) da_nil))))))
        (.cons ⟨(by rfl), (by decide), .inl g2⟩ (o := some 4) ⟨rfl, rfl⟩ (fun F0 H0 a0 a oe cls d pn hz hf =>
          (dss_one (ds_ret (de_tup (da_cons de_str (da_cons (de_xf V.f2 V.o2 hz hf (de_var (pv 4))) da_nil))))))
        (.cons ⟨(by rfl), (by decide), .inl g3⟩ (o := none) trivial (fun F0 H0 a0 a oe cls d pn hz hf =>
          (dss_one (ds_ret (de_tup (da_cons de_str da_nil)))))
        .nil)))))
      , fun ds Q ex h => ?_⟩)
  · obtain ⟨_, _, _, _, rfl, _⟩ := h
    rfl
  · obtain ⟨i, a, b, c, rfl, h⟩ := h
    walk_at "d"
    refine dTry_go rfl (fun X => ∀ ρ : En, ρ = [some (OV.dat (D.int i)), some (OV.dat a), some (OV.dat b), some (OV.dat c), none] → (∀ k, Q (.dat (cD k)) → X cc [("most", .int k)] ρ) ∧ (∀ k, Q (.dat (rD k)) → X cr [("at", .int k)] ρ) ∧ (Q (.dat pD) → X cp [] ρ)) ?_ fun X hX => ?_
    · rintro ρ rfl
      have big : 2 ≤ sizeLine := by decide
      refine ⟨fun k q => ⟨true, V.x1, fun _ => ⟨rfl, fun F0 H0 a0 a d xf => ?_⟩, fun h => by cases h⟩, fun k q => ⟨false, V.x2, (fun h => by cases h), fun _ => ⟨true, V.x4, fun _ => ⟨rfl, fun F0 H0 a0 a d xf => ?_⟩, fun h => by cases h⟩⟩,
        fun q => ⟨false, V.x5, (fun h => by cases h), fun _ => ⟨false, V.x6, (fun h => by cases h), fun _ => ⟨true, V.x7, fun _ => ⟨rfl, fun F0 H0 a0 a d xf => ?_⟩, fun h => by cases h⟩⟩⟩⟩
      · walk_at "d"
        exact ⟨[("most", .int k)], .int k, by simp, xf, rfl, big, q⟩
      · walk_at "d"
        exact ⟨[("at", .int k)], .int k, by simp, xf, rfl, big, q⟩
      · walk_at "d"
        exact ⟨by decide, q⟩
    · obtain ⟨hc, hr, hp⟩ := hX _ rfl
      have two : 2 ≤ sizeLine := by decide
      rcases h with ⟨rfl, pa, h1, h2⟩ | ⟨rfl, pa, m, rfl, h1, h2⟩ | ⟨hi, pa, pb, h1, h2, h3⟩ | ⟨rfl, pa, pb, pc, h1, h2, h3, h4⟩ | ⟨rfl, pa, pb, h1, h2, h3⟩ | ⟨rfl, pa, pb, h1, h2⟩ | ⟨rfl, pa, h1, h2⟩ | ⟨rfl, pa, h1, h2⟩
      · walk_at "d"
        refine ite_t (by decide) ⟨rfl, rfl, ite_t rfl ?_⟩
        refine ⟨a, 24, rfl, pa, fun e => ⟨two, (fun z => by cases z), h2 e⟩, fun e => hc 24 (h1 e)⟩
      · walk_at "d"
        refine ite_t (by decide) ⟨rfl, rfl, ite_f (by show ¬ ((1 : Int) == 0) = true; decide) ?_⟩
        refine ⟨a, m, rfl, pa, fun e => ⟨two, (fun z => by cases z), h2 e⟩, fun e => hc m (h1 e)⟩
      · walk_at "d"
        refine ite_f (by rcases hi with rfl | rfl | rfl <;> decide) (ite_t (by rcases hi with rfl | rfl | rfl <;> decide) ?_)
        exact ⟨i, a, b, rfl, hi, pa, pb, ⟨fun e => hc 24 (h1 e), fun n k en x1 x2 ef => hr k (h2 n k en x1 x2 ef)⟩, fun n is en x1 x2 ef ei t ht => ⟨two, (fun z => by cases z), h3 n is en x1 x2 ef ei t ht⟩⟩
      · walk_at "d"
        refine ite_f (by decide) (ite_f (by decide) ⟨rfl, rfl, ite_t rfl ?_⟩)
        exact ⟨a, b, c, rfl, pa, pb, pc, fun e => hc 24 (h1 e), fun m em x1 x2 e => hc m (h2 m em x1 x2 e), fun m d em ed x1 x2 x3 x4 e => hp (h3 m d em ed x1 x2 x3 x4 e), fun m d pl em ed ep x1 x2 x3 x4 x5 x6 => ⟨two, (fun z => by cases z), h4 m d pl em ed ep x1 x2 x3 x4 x5 x6⟩⟩
      · walk_at "d"
        refine ite_f (by decide) (ite_f (by decide) ⟨rfl, rfl, ite_f (by show ¬ ((6 : Int) == 5) = true; decide) ⟨rfl, rfl, ite_t rfl ?_⟩⟩)
        exact ⟨a, b, rfl, pa, pb, fun e => hc 24 (h1 e), fun m em x1 x2 e => hp (h2 m em x1 x2 e), fun m n em en x1 x2 x3 x4 => ⟨two, (fun z => by cases z), h3 m n em en x1 x2 x3 x4⟩⟩
      · walk_at "d"
        refine ite_f (by decide) (ite_f (by decide) ⟨rfl, rfl, ite_f (by show ¬ ((7 : Int) == 5) = true; decide) ⟨rfl, rfl, ite_f (by show ¬ ((7 : Int) == 6) = true; decide) ⟨rfl, rfl, ite_t rfl ?_⟩⟩⟩)
        exact ⟨a, b, rfl, pa, pb, fun e => hc 24 (h1 e), fun m d em ed x1 x2 x3 x4 => ⟨two, (fun z => by cases z), h2 m d em ed x1 x2 x3 x4⟩⟩
      · walk_at "d"
        refine ite_f (by decide) (ite_f (by decide) ⟨rfl, rfl, ite_f (by show ¬ ((8 : Int) == 5) = true; decide) ⟨rfl, rfl, ite_f (by show ¬ ((8 : Int) == 6) = true; decide) ⟨rfl, rfl, ite_f (by show ¬ ((8 : Int) == 7) = true; decide) ⟨rfl, rfl, ite_t rfl ?_⟩⟩⟩⟩)
        exact ⟨a, rfl, pa, fun e => hc 24 (h1 e), fun m em x1 x2 => ⟨two, (fun z => by cases z), h2 m em x1 x2⟩⟩
      · walk_at "d"
        refine ite_f (by decide) (ite_f (by decide) ⟨rfl, rfl, ite_f (by show ¬ ((9 : Int) == 5) = true; decide) ⟨rfl, rfl, ite_f (by show ¬ ((9 : Int) == 6) = true; decide) ⟨rfl, rfl, ite_f (by show ¬ ((9 : Int) == 7) = true; decide) ⟨rfl, rfl, ite_f (by show ¬ ((9 : Int) == 8) = true; decide) ?_⟩⟩⟩⟩)
        unfold dListG
        walk_at "d"
        refine ⟨a, rfl, pa, fun _ => ⟨V.s1, hc 6 h2⟩, fun m em x1 x2 => ?_⟩
        subst em
        have h1 : (decide (0 ≤ m) && decide (m ≤ 6)) = false := h1
        rw [decide_eq_true x1, decide_eq_true x2] at h1
        cases h1
theorem sc_lcl : FnScope ["raised"] [] (defScope s_lcl) := ⟨rfl, rfl, rfl, by decide +kernel, rfl, by decide +kernel, by decide +kernel⟩
def wTrue0 : DW := fun ds Q _ => ds = [] ∧ Q (.dat (.bl true))
structure Fam (K : PySem.W.Frag) (cb cc cr cp : Addr) : Prop where
  x : PySem.W.exmOne K (.ref cr) (.ref cb) = some true
  i : IsC K cr
  k1 : PySem.W.kitOne K (.ref cr) (.ref cr) = some true
  k2 : PySem.W.kitOne K (.ref cr) (.ref cp) = some false
  k3 : PySem.W.kitOne K (.ref cr) (.ref cc) = some false
  k4 : PySem.W.kitOne K (.ref cr) (.type "ValueError") = some true
theorem ok_lcl {cb cc cr cp f : Addr} {fd : FuncData} (F : Fun K "_law_classes" "_law_classes" s_lcl f fd) (T : Bl mg) (V : Fam K cb cc cr cp) (nve : mg "ValueError" = none) (g0 : mg "FrameError" = some (.ref cb)) (g1 : mg "BadCount" = some (.ref cc)) (g2 : mg "BadRow" = some (.ref cr)) (g3 : mg "BadPlace" = some (.ref cp))
    (crow_place : Cal P w K mg base (L2.CX P w) "row_place" 5 (spD K (wPlace cc cr))) : FnOk P w K mg base CX0 6 f fd [] (spD K wTrue0) := by
  refine okD F sc_lcl (fun ds Q ex h => ?_) (fun cdv A outer s H E hr md F0 a0 => ⟨_, _,
      (dss_one (ds_try rfl rfl sc_lcl.nd takesF lxtF (fun F0 H0 a0 W pn xe tk exE lx =>
        (dss_cons (ds_expr (de_callT crow_place.v (hr.mono (by decide)) (by rfl) tk lx (fun _ => .nil) (da_cons de_int (da_cons (de_tup (da_cons de_int (da_cons de_int da_nil))) da_nil))))
        (dss_one (ds_ret de_bl))))
        (.cons ⟨(by rfl), (by decide), .inl g0⟩ (o := some 0) ⟨rfl, rfl⟩ (fun F0 H0 a0 a oe cls d pn hz hf =>
          (dss_one (ds_ret (de_and (de_isE V.i hz hf (by rfl) T.n_isinstance (de_var (pv 0)) (pe_glob (v := .ref cr) (by rfl) g2 rfl) (.own cr)) (de_and (de_notT K (de_isE V.i hz hf (by rfl) T.n_isinstance (de_var (pv 0)) (pe_glob (v := .ref cp) (by rfl) g3 rfl) (.own cp))) (de_and (de_notT K (de_isE V.i hz hf (by rfl) T.n_isinstance (de_var (pv 0)) (pe_glob (v := .ref cc) (by rfl) g1 rfl) (.own cc))) (de_one (de_isE V.i hz hf (by rfl) T.n_isinstance (de_var (pv 0)) (pe_bltn (v := .ty "ValueError") (u := .type "ValueError") (by rfl) nve (by decide +kernel) rfl) (.ty _)))))))))
        .nil)))
      , fun ds Q ex h => ?_⟩)
  · obtain ⟨rfl, _⟩ := h
    rfl
  · obtain ⟨rfl, q⟩ := h
    have fr : ∀ n : Int, D.int 3 = .int n → faultRow (rgI 0 n) (.tup [.int 0, .int 0]) = .int 1 := fun n e => by
      cases e
      rfl
    refine dTry_go rfl (fun X => ∀ (j : Int) (ρ : En), ρ = [none] → X cr [("at", .int j)] ρ) ?_ fun X hX => ?_
    · rintro j ρ rfl
      refine ⟨true, V.x, fun _ => ⟨rfl, fun F1 H1 a1 a d xf => ?_⟩, fun h => by cases h⟩
      walk_at "d"
      refine ⟨[("at", .int j)], true, by simp, xf, V.k1, ?_⟩
      walk_at "d"
      refine ⟨[("at", .int j)], false, by simp, xf, V.k2, ?_⟩
      walk_at "d"
      refine ⟨[("at", .int j)], false, by simp, xf, V.k3, ?_⟩
      walk_at "d"
      exact ⟨[("at", .int j)], true, by simp, xf, V.k4, q⟩
    · refine sq_go fun S hS => ?_
      walk_at "d"
      refine ⟨by decide, .int 3, _, rfl, rfl, ⟨rfl, fun ds e x hx => ?_⟩, ⟨(fun z => by cases z), fun n j e _ _ ef => hX j _ rfl⟩, fun n js e _ _ z _ => ?_⟩
      · cases e
        simp at hx
        rw [hx]
        rfl
      · rw [fr n e] at z; cases z
end
end Z

set_option Elab.async false
set_option linter.all false
set_option maxRecDepth 100000
namespace Z
open PySem L2
/-! ### all rows over few frames, by the kernel -/
def allL (m : Int) : List (List Int) := (rgI 0 (m + 1)).flatMap fun d => rowsL m d.toNat
def rowOk (m : Int) (R : List (List Int)) (k : Nat) : Bool :=
  let row := R.getD k []
  let pl := placeL (rgI 0 m) row
  decide row.Nodup && (row.all fun i => decide (0 ≤ i) && decide (i < m)) && decide (pl + shorterI m row.length = k) && decide (numRow m k = row) && decide (pl = ((R.take k).filter fun one => one.length == row.length).length) && decide (unplace (rgI 0 m) row.length pl = row)
def chkL (m : Int) : Bool := decide (allRowsI m = allL m) && decide (allI m = (allL m).length) && decide ((allL m).length ≤ 400) && ((rgI 0 (m + 1)).all fun d => decide (prm m d = (rowsL m d.toNat).length)) && ((List.range (allL m).length).all (rowOk m (allL m))) && (allL m).all fun r => decide (r.length ≤ 5)
theorem chk_all : ∀ a : Fin 6, chkL ((a : Nat) : Int) = true := by decide +kernel
structure LsOk (m : Int) : Prop where
  rows : allRowsI m = allL m
  many : allI m = (allL m).length
  few : (allL m).length ≤ 400
  lev : ∀ d : Int, 0 ≤ d → d ≤ m → prm m d = (rowsL m d.toNat).length
  row : ∀ k, k < (allL m).length → rowOk m (allL m) k = true
  len : ∀ r ∈ allL m, r.length ≤ 5
theorem ls_ok {m : Int} (m0 : 0 ≤ m) (m1 : m ≤ 5) : LsOk m := by
  have h := chk_all ⟨m.toNat, by omega⟩
  rw [show (((⟨m.toNat, by omega⟩ : Fin 6) : Nat) : Int) = m by show ((m.toNat : Nat) : Int) = m; omega] at h
  unfold chkL at h
  simp only [Bool.and_eq_true, decide_eq_true_eq, List.all_eq_true] at h
  obtain ⟨⟨⟨⟨⟨h1, h2⟩, h3⟩, h4⟩, h5⟩, h6⟩ := h
  exact ⟨h1, h2, h3, fun d d0 d1 => h4 d (rgI_mem.mpr ⟨d0, by omega⟩), fun k hk => h5 k (List.mem_range.mpr hk), h6⟩
end Z

set_option Elab.async false
set_option linter.all false
set_option maxRecDepth 100000
namespace Z
open PySem L2
local macro_rules | `(tactic| walk_at "d") => `(tactic| simp only [dSq, dIf, dOr, dAnd, dNot, dTT, dTB, dUn, dBin, dVar, dC, dRet, dNext, dOrV, dAndV, dNotT, dIfE, isiD, OV.isOwn, startD, List.map_cons, List.map_nil, List.cons_append, List.nil_append, List.append_nil, List.length_cons, List.length_nil, List.replicate, Nat.reduceAdd, Nat.reduceSub, Nat.sub_self, Nat.add_sub_cancel,
  List.getElem?_cons_zero, List.getElem?_cons_succ, bOk, iv_d, iv_n, iv_v, nr_d, nr_n, List.any_cons, List.any_nil, Bool.or_false, Bool.or_true, Bool.false_eq_true, Bool.not_true, Bool.not_false, false_implies, true_and, and_true, if_true, if_false, ite_true, ite_false, forall_const, reduceIte, reduceCtorEq,
  d0_1, dI_1, ad_i, ad_t, ad_l, ng_1, dCa, dCons, dNil, dTup, dLst, dEq, dSeq, dRange, dEnum, dRg1, dRg2, dListRg, dTupRg, dSl, dONone, dOSome, dCall, mv_d, mv_n, mv_v, nn_n, nn_b, nn_i, nn_s, nn_l, nn_t, nn_x, nn_d, dSetF, dSetO, dDrop, dFor, dgName, dgTup, dgCons, dgNil, dRetN, dYes, it_1, pm_1, nmR, dXf, dIsE, sq_l, sq_t, sq_x, tr_n, tr_b, tr_i, tr_l, tr_t, tr_x, tr_d, vl_d, vl_n, vl_v, fr_d, fr_o, fr_k, sl_l, sl_t, sl_x, le_1, li_1, tu_1, tu_l, tu_t, tu_x, tx_1, tx_l, tx_t, tx_x, rr_d, rr_n, rr_v, in_1, ix_1, dt_1, isB_1, dCallT, dIdx, dRaise, dAsg, dDnew, List.set_cons_zero, List.set_cons_succ, noOwnAt, List.all_cons, List.all_nil, wipeE, lent, hasOwn, Option.map_some, Option.map_none, dLc, lt_n, pl_n, tyB_n, tyI_n, tyS_n, tyL_n, tyT_n, lt_b, pl_b, tyB_b, tyI_b, tyS_b, tyL_b, tyT_b, lt_i, pl_i, tyB_i, tyI_i, tyS_i, tyL_i, tyT_i, lt_s, pl_s, tyB_s, tyI_s, tyS_s, tyL_s, tyT_s, lt_l, pl_l, tyB_l, tyI_l, tyS_l, tyL_l, tyT_l, lt_t, pl_t, tyB_t, tyI_t, tyS_t, tyL_t, tyT_t, lt_x, pl_x, tyB_x, tyI_x, tyS_x, tyL_x, tyT_x, lt_d, pl_d, tyB_d, tyI_d, tyS_d, tyL_d, tyT_d, noL, noLA, Bool.and_true, Bool.true_and])
local macro_rules | `(tactic| walk_at "e") => `(tactic| first | exact ⟨_, rfl, rfl⟩ | rfl)
abbrev s_lst : Stmt := top 36
section
variable {P : Program} {w : World} {K : PySem.W.Frag} {mg : Str → Option Value} {base : Heap}
theorem exOk_rows {n : Nat} {R : List (List Int)} (h1 : R.length ≤ 1000) (h2 : ∀ r ∈ R, r.length ≤ 1000) : exOk (n + 3) (.tup (R.map rowT)) (.tup (R.map rowT)) := by
  rw [exOk_s]
  refine .inr ⟨_, _, .inl rfl, .inl rfl, rfl, by rw [List.length_map]; exact h1, fun i x y e1 e2 => ?_⟩
  rw [e1] at e2
  cases e2
  rw [List.getElem?_map] at e1
  cases e3 : R[i]? with
  | none => rw [e3] at e1; cases e1
  | some r =>
    rw [e3] at e1
    cases e1
    exact exOk_row (.inl rfl) (.inl rfl) (h2 r (List.mem_of_getElem? e3))
section
variable {cc cr cp : Addr} {Q : R → Prop} {ex : EXD} {m : Int} {r : List Int}
theorem rowFault_ok (nd : r.Nodup) (hm : ∀ i ∈ r, 0 ≤ i ∧ i < m) {d : D} (hd : seqOfD d = some (r.map D.int)) : faultRow (rgI 0 m) d = .non := fault_ok hd nd fun i hi => rgI_mem.mpr (hm i hi)
theorem rowEx_ok (m0 : 0 ≤ m) (m1 : m ≤ 24) (nd : r.Nodup) (hm : ∀ i ∈ r, 0 ≤ i ∧ i < m) {d : D} (hd : seqOfD d = some (r.map D.int)) : rowEx cc cr (.int m) d ex := by
  refine ⟨fun z => ?_, fun n k e _ _ z => ?_⟩
  · have z : (decide (0 ≤ m) && decide (m ≤ 24)) = false := z
    rw [decide_eq_true m0, decide_eq_true m1] at z
    cases z
  · cases e
    rw [rowFault_ok nd hm hd] at z; cases z
theorem number_go (m0 : 0 ≤ m) (m1 : m ≤ 24) (nd : r.Nodup) (hm : ∀ i ∈ r, 0 ≤ i ∧ i < m) (q : Q (.dat (.int (placeL (rgI 0 m) r + shorterI m r.length)))) : wNumber cc cr [.int m, rowT r] Q ex :=
  ⟨.int m, rowT r, rfl, rfl, plainA_ints rfl, rowEx_ok m0 m1 nd hm rfl, fun n is en _ _ _ ei => by cases en; cases ints_inj (Option.some.inj ei); exact q⟩
theorem placed_go (m0 : 0 ≤ m) (m1 : m ≤ 24) (nd : r.Nodup) (hm : ∀ i ∈ r, 0 ≤ i ∧ i < m) (q : Q (.dat (.int (placeL (rgI 0 m) r)))) : wPlace cc cr [.int m, rowT r] Q ex :=
  ⟨.int m, rowT r, rfl, rfl, plainA_ints rfl, rowEx_ok m0 m1 nd hm rfl, fun n is en _ _ _ ei => by cases en; cases ints_inj (Option.some.inj ei); exact q⟩
theorem whole_yes {i a b : Int} (h0 : a ≤ i) (h1 : i ≤ b) : wholeD (.int i) (some a) (some b) = true := by
  show (decide (a ≤ i) && decide (i ≤ b)) = true
  rw [decide_eq_true h0, decide_eq_true h1]
  rfl
theorem numbered_go {n : Int} (m0 : 0 ≤ m) (m1 : m ≤ 24) (n0 : 0 ≤ n) (n1 : n < allI m) (q : Q (.dat (rowT (numRow m n)))) : wNumbered cc cp [.int m, .int n] Q ex := by
  refine ⟨.int m, .int n, rfl, rfl, rfl, fun z => ?_, fun m' e _ _ z => ?_, fun m' n' e e2 _ _ _ _ => ?_⟩
  · rw [whole_yes m0 m1] at z; cases z
  · cases e
    rw [whole_yes n0 (by omega)] at z; cases z
  · cases e
    cases e2
    exact q
theorem rowAt_go {d pl : Int} (m0 : 0 ≤ m) (m1 : m ≤ 24) (d0 : 0 ≤ d) (d1 : d ≤ m) (p0 : 0 ≤ pl) (p1 : pl < prm m d) (q : Q (.dat (rowT (unplace (rgI 0 m) d.toNat pl)))) : wRowAt cc cp [.int m, .int d, .int pl] Q ex := by
  refine ⟨.int m, .int d, .int pl, rfl, rfl, rfl, rfl, fun z => ?_, fun m' e _ _ z => ?_, fun m' d' e e2 _ _ _ _ z => ?_, fun m' d' pl' e e2 e3 _ _ _ _ _ _ => ?_⟩
  · rw [whole_yes m0 m1] at z; cases z
  · cases e
    rw [whole_yes d0 d1] at z; cases z
  · cases e
    cases e2
    rw [whole_yes p0 (by omega)] at z; cases z
  · cases e
    cases e2
    cases e3
    exact q
end
theorem sc_lst : FnScope ["m", "due", "d", "number", "level", "row", "before", "one"] ["m"] (defScope s_lst) := ⟨rfl, rfl, rfl, by decide +kernel, rfl, by decide +kernel, by decide +kernel⟩
def wListed : DW := fun ds Q _ => ∃ m : Int, ds = [.int m] ∧ 0 ≤ m ∧ m ≤ 5 ∧ Q (.dat (.bl true))
theorem ok_lst {cc cr cp f : Addr} {fd : FuncData} (F : Fun K "_law_listed" "_law_listed" s_lst f fd) (T : Bl mg) (c_law_rows_of : Cal P w K mg base CX0 "_law_rows_of" 1 (spD K wLRows)) (c_law_exact : Cal P w K mg base CX0 "_law_exact" 4 (spD K (wExact 4)))
    (ccount_falling : Cal P w K mg base (L2.CX P w) "count_falling" 4 (spD K (wFall cc))) (ccount_all_rows : Cal P w K mg base (L2.CX P w) "count_all_rows" 4 (spD K (wAll cc))) (gall_rows : CalG P w K mg base "all_rows" 5 (spG K (wAllRows cc)))
    (crow_number : Cal P w K mg base (L2.CX P w) "row_number" 6 (spD K (wNumber cc cr))) (crow_numbered : Cal P w K mg base (L2.CX P w) "row_numbered" 5 (spD K (wNumbered cc cp))) (crow_place : Cal P w K mg base (L2.CX P w) "row_place" 5 (spD K (wPlace cc cr))) (crow_at : Cal P w K mg base (L2.CX P w) "row_at" 4 (spD K (wRowAt cc cp))) :
    FnOk P w K mg base CX0 9 f fd ["m"] (spD K wListed) := by
  refine okD F sc_lst (fun ds Q ex h => ?_) (fun cdv A outer s H E hr md F0 a0 => ⟨_, _,
      (dss_cons (ds_setO (i := 1) sc_lst.nd rfl (Or.inl rfl) (de_lst da_nil))
      (dss_cons (ds_for PassesOwn.never rfl (di_range1 (by rfl) T.n_range (de_op (op_addA K) opd_add (de_var (pv 0)) de_int)) (dg_name (i := 2) sc_lst.nd rfl (Or.inl rfl))
        (dss_cons (ds_setF (i := 4) sc_lst.nd rfl (Or.inl rfl) (de_call c_law_rows_of (hr.mono (by decide)) (by rfl) (da_cons (de_var (pv 0)) (da_cons (de_var (pv 2)) da_nil))))
        (dss_cons (ds_if (dt_not (dt_truth K (de_call c_law_exact (hr.mono (by decide)) (by rfl) (da_cons (de_callT ccount_falling.v (hr.mono (by decide)) (by rfl) takesF lxtF (fun _ => .nil) (da_cons (de_var (pv 0)) (da_cons (de_var (pv 2)) da_nil))) (da_cons (de_callB (klen K) cad_len (by rfl) T.n_len PySem.boot_len (da_cons (de_var (pv 4)) da_nil)) da_nil)))))
          (dss_one (ds_ret de_bl))
          dss_nil)
        (dss_one (ds_expr (de_extend (pv 1) (de_var (pv 4))))))))
      (dss_cons (ds_if (DWs.ts (dw_or (dt_not (dt_truth K (de_call c_law_exact (hr.mono (by decide)) (by rfl) (da_cons (de_callTy (ktuple_of K) cad_tuple (by rfl) T.n_tuple (by decide +kernel) (da_cons (de_listG gall_rows (hr.mono (by decide)) (by rfl) (by rfl) T.n_list takesF lxtF (da_cons (de_var (pv 0)) da_nil)) da_nil)) (da_cons (de_callTy (ktuple_of K) cad_tuple (by rfl) T.n_tuple (by decide +kernel) (da_cons (de_var (pv 1)) da_nil)) da_nil))))) (dw_or1 (dt_not (dt_truth K (de_call c_law_exact (hr.mono (by decide)) (by rfl) (da_cons (de_callT ccount_all_rows.v (hr.mono (by decide)) (by rfl) takesF lxtF (fun _ => .nil) (da_cons (de_var (pv 0)) da_nil)) (da_cons (de_callB (klen K) cad_len (by rfl) T.n_len PySem.boot_len (da_cons (de_var (pv 1)) da_nil)) da_nil))))))))
        (dss_one (ds_ret de_bl))
        dss_nil)
      (dss_cons (ds_for PassesOwn.never rfl (di_range1 (by rfl) T.n_range (de_callB (klen K) cad_len (by rfl) T.n_len PySem.boot_len (da_cons (de_var (pv 1)) da_nil))) (dg_name (i := 3) sc_lst.nd rfl (Or.inl rfl))
        (dss_one (ds_if (DWs.ts (dw_or (dt_cmp op_lt opd_B0 (de_var (pv 0)) de_int (nomark _)) (dw_or1 (dt_cmp (keqD K hr.units) opd_eq (de_op op_mod opd_I (de_callTy call_int1 cad_int (by rfl) T.n_int (by decide +kernel) (da_cons (de_var (pv 3)) da_nil)) de_int) de_int (nomark _)))))
          (dss_cons (ds_setF (i := 5) sc_lst.nd rfl (Or.inr rfl) (de_ix (kix_seq K) opd_ix (de_var (pv 1)) (de_var (pv 3)) (fun _ _ => rfl)))
          (dss_cons (ds_setF (i := 6) sc_lst.nd rfl (Or.inl rfl) (de_callB (klen K) cad_len (by rfl) T.n_len PySem.boot_len (da_cons (de_lc (own := [("one", 7)]) rfl sc_lst.nd (di_seq K (de_slice K (de_var (pv 1)) do_none (do_some (de_var (pv 3))))) (blkOk_by (own := [("one", 7)]) (by show blkC ["m", "due", "d", "number", "level", "row", "before", "one"] (defScope s_lst) _ _ = true; decide +kernel)) (fun _ _ _ _ _ _ _ _ => (dg_name (i := 7) sc_lst.nd rfl (Or.inl rfl))) (fun _ _ _ _ _ _ _ _ => (dps_one (dt_cmp (keqD K hr.units) opd_eq (de_callB (klen K) cad_len (by rfl) T.n_len PySem.boot_len (da_cons (de_var (pv 7)) da_nil)) (de_callB (klen K) cad_len (by rfl) T.n_len PySem.boot_len (da_cons (de_var (pv 5)) da_nil)) (nomark _)))) (fun _ _ _ _ _ _ _ _ => (de_var (pv 7))) (by decide) s) da_nil)))
          (dss_cons (ds_if (DWs.ts (dw_or (dt_not (dt_truth K (de_call c_law_exact (hr.mono (by decide)) (by rfl) (da_cons (de_callT crow_number.v (hr.mono (by decide)) (by rfl) takesF lxtF (fun _ => .nil) (da_cons (de_var (pv 0)) (da_cons (de_var (pv 5)) da_nil))) (da_cons (de_var (pv 3)) da_nil))))) (dw_or1 (dt_not (dt_truth K (de_call c_law_exact (hr.mono (by decide)) (by rfl) (da_cons (de_callT crow_numbered.v (hr.mono (by decide)) (by rfl) takesF lxtF (fun _ => .nil) (da_cons (de_var (pv 0)) (da_cons (de_var (pv 3)) da_nil))) (da_cons (de_var (pv 5)) da_nil))))))))
            (dss_one (ds_ret de_bl))
            dss_nil)
          (dss_one (ds_if (DWs.ts (dw_or (dt_not (dt_truth K (de_call c_law_exact (hr.mono (by decide)) (by rfl) (da_cons (de_callT crow_place.v (hr.mono (by decide)) (by rfl) takesF lxtF (fun _ => .nil) (da_cons (de_var (pv 0)) (da_cons (de_var (pv 5)) da_nil))) (da_cons (de_var (pv 6)) da_nil))))) (dw_or1 (dt_not (dt_truth K (de_call c_law_exact (hr.mono (by decide)) (by rfl) (da_cons (de_callT crow_at.v (hr.mono (by decide)) (by rfl) takesF lxtF (fun _ => .nil) (da_cons (de_var (pv 0)) (da_cons (de_callB (klen K) cad_len (by rfl) T.n_len PySem.boot_len (da_cons (de_var (pv 5)) da_nil)) (da_cons (de_var (pv 6)) da_nil)))) (da_cons (de_var (pv 5)) da_nil))))))))
            (dss_one (ds_ret de_bl))
            dss_nil)))))
          dss_nil)))
      (dss_one (ds_ret de_bl))))))
      , fun ds Q ex h => ?_⟩)
  · obtain ⟨_, rfl, _⟩ := h
    rfl
  · obtain ⟨m, rfl, m0, m1, q⟩ := h
    have L := ls_ok m0 m1
    refine sq_go fun S hS => ?_
    walk_at "d"
    refine ⟨Nat.zero_le _, hS _ (sq_go fun S hS => ?_)⟩
    walk_at "d"
    rw [rgD_I]
    have catR : ∀ k : Nat, (k : Int) ≤ m → ((rgI 0 ((k + 1 : Nat) : Int)).flatMap fun d => rowsL m d.toNat) = ((rgI 0 (k : Int)).flatMap fun d => rowsL m d.toNat) ++ rowsL m k := fun k _ => by
      have cat : rgI 0 ((k + 1 : Nat) : Int) = rgI 0 (k : Int) ++ [(k : Int)] := by
        unfold rgI
        rw [show (((k + 1 : Nat) : Int) - 0).toNat = k + 1 by omega, show ((k : Int) - 0).toNat = k by omega, List.range_succ, List.map_append]
        simp
      rw [cat, List.flatMap_append]
      simp
    have pre : ∀ k : Nat, (k : Int) ≤ m + 1 → ((rgI 0 (k : Int)).flatMap fun d => rowsL m d.toNat).length ≤ 400 := fun k hk => by
      have e : rgI 0 (m + 1) = rgI 0 k ++ rgI k (m + 1) := by
        unfold rgI
        rw [show (m + 1 - 0).toNat = (((k : Int) - 0).toNat) + (m + 1 - k).toNat by omega, List.range_add, List.map_append, List.map_map]
        congr 1
        refine List.map_congr_left fun i _ => ?_
        show (0 : Int) + (((((k : Int) - 0).toNat + i : Nat)) : Int) = (k : Int) + (i : Nat)
        omega
      have h := L.few
      unfold allL at h
      rw [e, List.flatMap_append, List.length_append] at h
      omega
    refine ⟨by unfold R62; omega, by unfold R62; omega, dFor_ind (fun es ρ => ∃ (k : Nat) (x y : Option OV), es = (rgI k (m + 1)).map D.int ∧ (k : Int) ≤ m + 1 ∧ ρ = [some (OV.dat (.int m)), some (OV.own (((rgI 0 k).flatMap fun d => rowsL m d.toNat).map rowT)), x, none, y, none, none, none]) ?_ ?_ _ _ ⟨0, none, none, rfl, by omega, rfl⟩⟩
    · rintro ρ ⟨k, x, y, e1, hk, rfl⟩
      have hk2 : (k : Int) = m + 1 := by have := rg_done e1; omega
      rw [hk2]
      have eL : ((rgI 0 (m + 1)).flatMap fun d => rowsL m d.toNat) = allL m := rfl
      rw [eL]
      refine hS _ (sq_go fun S hS => ?_)
      unfold dListG
      walk_at "d"
      refine ⟨_, rfl, rfl, fun z => (by rw [whole_yes m0 (by omega)] at z; cases z), fun m' e _ _ => ?_⟩
      cases e
      rw [L.rows]
      refine ⟨noLA_rows _, _, _, rfl, exOk_rows (Nat.le_trans L.few (by decide)) (fun r hr => Nat.le_trans (L.len r hr) (by decide)), ?_⟩
      walk_at "d"
      refine ⟨_, rfl, rfl, fun z => (by rw [whole_yes m0 (by omega)] at z; cases z), fun m' e _ _ => ?_⟩
      cases e
      walk_at "d"
      refine ⟨_, _, rfl, exOk_base ?_, ?_⟩
      · rw [List.length_map, L.many]
        rfl
      walk_at "d"
      refine hS _ (sq_go fun S hS => ?_)
      walk_at "d"
      rw [List.length_map, rgD_I]
      have few := L.few
      refine ⟨by unfold R62; omega, by unfold R62; omega, dFor_ind (fun es ρ => ∃ (k : Nat) (x y z1 z2 z3 : Option OV), es = (rgI k (allL m).length).map D.int ∧ (k : Int) ≤ (allL m).length ∧ ρ = [some (OV.dat (.int m)), some (OV.own ((allL m).map rowT)), x, z1, y, z2, z3, none]) ?_ ?_ _ _ ⟨0, x, y, none, none, none, rfl, by omega, rfl⟩⟩
      · rintro ρ ⟨k, x, y, z1, z2, z3, e1, hk, rfl⟩
        refine hS _ ?_
        walk_at "d"
        exact q
      · rintro x es C ρ ⟨k, x, y, z1, z2, z3, e1, hk, rfl⟩ hC
        obtain ⟨hk2, rfl, rfl⟩ := rg_case e1
        have hkl : k < (allL m).length := by omega
        have ro := L.row k hkl
        unfold rowOk at ro
        rw [List.getD_eq_getElem?_getD, List.getElem?_eq_getElem hkl] at ro
        simp only [Option.getD_some, Bool.and_eq_true, decide_eq_true_eq, List.all_eq_true] at ro
        obtain ⟨⟨⟨⟨⟨nd, hm⟩, h1⟩, h2⟩, h3⟩, h4⟩ := ro
        generalize hr : (allL m)[k] = r at *
        have er : (allL m)[k]? = some r := by rw [List.getElem?_eq_getElem hkl, hr]
        simp only [dgName, List.set_cons_zero, List.set_cons_succ]
        have skip : C [some (OV.dat (.int m)), some (OV.own ((allL m).map rowT)), x, some (OV.dat (.int k)), y, z2, z3, none] := hC _ ⟨k + 1, _, _, _, _, _, rfl, by omega, rfl⟩
        have rl : r.length ≤ 5 := L.len r (List.mem_of_getElem? er)
        have ex5 : exOk 4 (rowT r) (rowT r) := exOk_row (.inl rfl) (.inl rfl) (by omega)
        have p0 : 0 ≤ placeL (rgI 0 m) r ∧ placeL (rgI 0 m) r < prm m r.length := by
          have hmm : ∀ i ∈ r, i ∈ rgI 0 m := fun i hi => rgI_mem.mpr (by simpa using hm i hi)
          obtain ⟨q1, q2, _⟩ := place_back r (rgI 0 m) (rgI_nodup 0 m) nd hmm
          rw [rgI_len, show ((((m - 0).toNat : Nat)) : Int) = m by omega] at q2
          exact ⟨q1, q2⟩
        have hm' : ∀ i ∈ r, 0 ≤ i ∧ i < m := fun i hi => by simpa using hm i hi
        have rlm : (r.length : Int) ≤ m := by
          have := nodup_len (n := m.toNat) nd fun i hi => by have := hm' i hi; omega
          omega
        walk_at "d"
        refine ite_b ?_ ⟨by decide, rfl, rfl, ite_b ?_ skip⟩
        all_goals
          refine ⟨rowT r, by rw [atI_nat, List.getElem?_map, er]; rfl, pn_ints r, ?_, ?_⟩
          · rw [cut_to, ← List.map_take]
            exact noLA_rows _
          rw [cut_to, ← List.map_take]
          refine dLc_ind (fun es acc => ∃ dn rest : List (List Int), (allL m).take k = dn ++ rest ∧ es = rest.map rowT ∧ acc = (dn.filter fun one => one.length == r.length).map rowT) ?_ ?_ _ _ ⟨[], (allL m).take k, rfl, rfl, rfl⟩
          · rintro acc ⟨dn, rest, e1, e2, rfl⟩
            cases rest with
            | cons _ _ => cases e2
            | nil =>
              rw [List.append_nil] at e1
              rw [← e1, List.length_map, ← h3]
              refine number_go m0 (by omega) nd hm' ?_
              rw [h1]
              refine ⟨_, _, rfl, exOk_base rfl, (fun z => by cases z), ?_⟩
              walk_at "d"
              refine numbered_go m0 (by omega) (by omega) (by rw [L.many]; omega) ?_
              rw [h2]
              refine ⟨_, _, rfl, ex5, (fun z => by cases z), ?_⟩
              walk_at "d"
              refine placed_go m0 (by omega) nd hm' ?_
              refine ⟨_, _, rfl, exOk_base rfl, (fun z => by cases z), ?_⟩
              walk_at "d"
              refine rowAt_go m0 (by omega) (by omega) (by rw [List.length_map]; exact rlm) p0.1 (by rw [List.length_map]; exact p0.2) ?_
              rw [List.length_map, Int.toNat_natCast, h4]
              refine ⟨_, _, rfl, ex5, (fun z => by cases z), ?_⟩
              walk_at "d"
              exact hC _ ⟨k + 1, _, _, _, _, _, rfl, by omega, rfl⟩
          · rintro x es acc C1 ⟨dn, rest, e1, e2, rfl⟩ hC1
            cases rest with
            | nil => cases e2
            | cons one rest =>
              cases e2
              walk_at "d"
              have hdn : dn.length ≤ 400 := by
                have := congrArg List.length e1
                rw [List.length_take, List.length_append] at this
                omega
              have hfl : (dn.filter fun one => one.length == r.length).length ≤ dn.length := List.length_filter_le _ _
              rw [List.length_map, List.length_map, List.length_map]
              refine ⟨rfl, rfl, ite_d (fun c => ?_) (fun c => ?_)⟩
              · have c : (((one.length : Nat) : Int) == ((r.length : Nat) : Int)) = true := c
                have c2 : one.length = r.length := by have := eq_of_beq c; omega
                refine ⟨Nat.lt_of_le_of_lt (Nat.le_trans hfl hdn) (by decide), fun _ => pn_ints one, hC1 _ ⟨dn ++ [one], rest, by rw [e1]; simp, rfl, ?_⟩⟩
                rw [List.filter_append, List.map_append, List.filter_cons, if_pos (by simpa using c2)]
                rfl
              · have c : ¬ (((one.length : Nat) : Int) == ((r.length : Nat) : Int)) = true := c
                have c2 : ¬ one.length = r.length := fun z => c (by rw [z]; exact beq_self_eq_true _)
                refine hC1 _ ⟨dn ++ [one], rest, by rw [e1]; simp, rfl, ?_⟩
                rw [List.filter_append, List.filter_cons, if_neg (by simpa using c2), List.filter_nil, List.append_nil]
    · rintro x es C ρ ⟨k, x1, y1, e1, hk, rfl⟩ hC
      obtain ⟨hk2, rfl, rfl⟩ := rg_case e1
      simp only [dgName, List.set_cons_zero, List.set_cons_succ]
      refine sq_go fun S2 hS2 => ?_
      walk_at "d"
      refine ⟨m, k, rfl, by omega, by omega, m1, ?_⟩
      walk_at "d"
      refine hS2 _ (sq_go fun S2 hS2 => ?_)
      walk_at "d"
      refine ⟨_, _, rfl, rfl, rfl, fun z => ?_, fun m' d' e e2 _ _ _ _ => ?_⟩
      · rcases z with z | z
        · rw [whole_yes m0 (by omega)] at z; cases z
        · rw [whole_yes (by omega) (by omega)] at z; cases z
      cases e
      cases e2
      rw [List.length_map]
      refine ⟨_, _, rfl, exOk_base ?_, (fun z => by cases z), ?_⟩
      · rw [L.lev k (by omega) (by omega)]
        rfl
      walk_at "d"
      refine hS2 _ ?_
      unfold dExt isOwnL ownAt
      walk_at "d"
      refine ⟨_, rfl, ?_, hC _ ⟨k + 1, some (OV.dat (.int k)), some (OV.dat (.lst ((rowsL m (k : Int).toNat).map rowT))), rfl, by omega, ?_⟩⟩
      · have h2 := pre (k + 1) (by omega)
        rw [catR k (by omega), List.length_append] at h2
        rw [List.length_map, List.length_map, Int.toNat_natCast]
        exact Nat.le_trans h2 (by decide)
      · rw [catR k (by omega), List.map_append, Int.toNat_natCast]
end
end Z

set_option Elab.async false
set_option linter.all false
set_option maxRecDepth 100000
namespace Z
open PySem L2
local macro_rules | `(tactic| walk_at "d") => `(tactic| simp only [dSq, dIf, dOr, dAnd, dNot, dTT, dTB, dUn, dBin, dVar, dC, dRet, dNext, dOrV, dAndV, dNotT, dIfE, isiD, OV.isOwn, startD, List.map_cons, List.map_nil, List.cons_append, List.nil_append, List.append_nil, List.length_cons, List.length_nil, List.replicate, Nat.reduceAdd, Nat.reduceSub, Nat.sub_self, Nat.add_sub_cancel,
  List.getElem?_cons_zero, List.getElem?_cons_succ, bOk, iv_d, iv_n, iv_v, nr_d, nr_n, List.any_cons, List.any_nil, Bool.or_false, Bool.or_true, Bool.false_eq_true, Bool.not_true, Bool.not_false, false_implies, true_and, and_true, if_true, if_false, ite_true, ite_false, forall_const, reduceIte, reduceCtorEq,
  d0_1, dI_1, ad_i, ad_t, ad_l, ng_1, dCa, dCons, dNil, dTup, dLst, dEq, dSeq, dRange, dEnum, dRg1, dRg2, dListRg, dTupRg, dSl, dONone, dOSome, dCall, mv_d, mv_n, mv_v, nn_n, nn_b, nn_i, nn_s, nn_l, nn_t, nn_x, nn_d, dSetF, dSetO, dDrop, dFor, dgName, dgTup, dgCons, dgNil, dRetN, dYes, it_1, pm_1, nmR, dXf, dIsE, sq_l, sq_t, sq_x, tr_n, tr_b, tr_i, tr_l, tr_t, tr_x, tr_d, vl_d, vl_n, vl_v, fr_d, fr_o, fr_k, sl_l, sl_t, sl_x, le_1, li_1, tu_1, tu_l, tu_t, tu_x, tx_1, tx_l, tx_t, tx_x, rr_d, rr_n, rr_v, in_1, ix_1, dt_1, isB_1, dCallT, dIdx, dRaise, dAsg, dDnew, List.set_cons_zero, List.set_cons_succ, noOwnAt, List.all_cons, List.all_nil, wipeE, lent, hasOwn, Option.map_some, Option.map_none, dLc, lt_n, pl_n, tyB_n, tyI_n, tyS_n, tyL_n, tyT_n, lt_b, pl_b, tyB_b, tyI_b, tyS_b, tyL_b, tyT_b, lt_i, pl_i, tyB_i, tyI_i, tyS_i, tyL_i, tyT_i, lt_s, pl_s, tyB_s, tyI_s, tyS_s, tyL_s, tyT_s, lt_l, pl_l, tyB_l, tyI_l, tyS_l, tyL_l, tyT_l, lt_t, pl_t, tyB_t, tyI_t, tyS_t, tyL_t, tyT_t, lt_x, pl_x, tyB_x, tyI_x, tyS_x, tyL_x, tyT_x, lt_d, pl_d, tyB_d, tyI_d, tyS_d, tyL_d, tyT_d, noL, noLA, Bool.and_true, Bool.true_and])
local macro_rules | `(tactic| walk_at "e") => `(tactic| first | exact ⟨_, rfl, rfl⟩ | rfl)
abbrev s_gr : Stmt := top 37
abbrev s_lrf : Stmt := top 39
section
variable {P : Program} {w : World} {K : PySem.W.Frag} {mg : Str → Option Value} {base : Heap}
theorem exOk_one {n : Nat} {x : Str} (hx : PyData.strOk x = true) : exOk (n + 2) (.tup [.str x]) (.tup [.str x]) := by
  rw [exOk_s]
  refine .inr ⟨_, _, .inl rfl, .inl rfl, rfl, by simp, fun i a b e1 e2 => ?_⟩
  rw [e1] at e2
  cases e2
  match i, e1 with
  | 0, e1 =>
    cases e1
    exact exOk_base ⟨rfl, hx⟩
section
variable {Q : R → Prop} {ex : EXD} {c d : D} {m : Int} {r : List Int} {i : Int}
/-! ### the answers -/
theorem row_told {b : D} (hi : i = 2 ∨ i = 3 ∨ i = 4) (m0 : 0 ≤ m) (m1 : m ≤ 24) (nd : r.Nodup) (hm : ∀ i ∈ r, 0 ≤ i ∧ i < m) (hb : seqOfD b = some (r.map D.int)) (q : ∀ t, gRow i m r t → Q (.dat (tD t))) : wAsked [.int i, .int m, b, c] Q ex := by
  refine ⟨i, .int m, b, c, rfl, .inr (.inr (.inl ⟨hi, rfl, plainA_ints hb, fun z => ?_, fun n k e _ _ z => ?_, fun n is e _ _ _ ei t ht => ?_⟩))⟩
  · rw [whole_yes m0 m1] at z; cases z
  · cases e
    rw [rowFault_ok nd hm hb] at z; cases z
  · cases e
    rw [hb] at ei
    cases ints_inj (Option.some.inj ei)
    exact q t ht
theorem row_bad_told {b : D} {k : Int} (hi : i = 2 ∨ i = 3 ∨ i = 4) (m0 : 0 ≤ m) (m1 : m ≤ 24) (pb : plainA b) (hb : faultRow (rgI 0 m) b = .int k) (q : Q (.dat (rD k))) : wAsked [.int i, .int m, b, c] Q ex := by
  refine ⟨i, .int m, b, c, rfl, .inr (.inr (.inl ⟨hi, rfl, pb, fun z => ?_, fun n k' e _ _ z => ?_, fun n is e _ _ z _ t ht => ?_⟩))⟩
  · rw [whole_yes m0 m1] at z; cases z
  · cases e
    rw [hb] at z
    cases z
    exact q
  · cases e
    rw [hb] at z; cases z
theorem row_count {a b : D} (hi : i = 2 ∨ i = 3 ∨ i = 4) (pa : plainD a = true) (pb : plainA b) (ha : wholeD a (some 0) (some 24) = false) (q : Q (.dat (cD 24))) : wAsked [.int i, a, b, c] Q ex := by
  refine ⟨i, a, b, c, rfl, .inr (.inr (.inl ⟨hi, pa, pb, fun _ => q, fun n k' e x1 x2 _ => ?_, fun n is e x1 x2 _ _ _ _ => ?_⟩))⟩
  · subst e
    rw [whole_yes x1 x2] at ha; cases ha
  · subst e
    rw [whole_yes x1 x2] at ha; cases ha
theorem at_told {e pl : Int} (m0 : 0 ≤ m) (m1 : m ≤ 24) (e0 : 0 ≤ e) (e1 : e ≤ m) (p0 : 0 ≤ pl) (p1 : pl < prm m e) (q : Q (.dat (tD (rowT (unplace (rgI 0 m) e.toNat pl))))) : wAsked [.int 5, .int m, .int e, .int pl] Q ex := by
  refine ⟨5, _, _, _, rfl, .inr (.inr (.inr (.inl ⟨rfl, rfl, rfl, rfl, fun z => ?_, fun m' e' _ _ z => ?_, fun m' d' e' e2 _ _ _ _ z => ?_, fun m' d' pl' e' e2 e3 _ _ _ _ _ _ => ?_⟩)))⟩
  · rw [whole_yes m0 m1] at z; cases z
  · cases e'
    rw [whole_yes e0 e1] at z; cases z
  · cases e'
    cases e2
    rw [whole_yes p0 (by omega)] at z; cases z
  · cases e'
    cases e2
    cases e3
    exact q
theorem at_place {e : Int} (m0 : 0 ≤ m) (m1 : m ≤ 24) (e0 : 0 ≤ e) (e1 : e ≤ m) (pc : plainD c = true) (hc : wholeD c (some 0) (some (prm m e - 1)) = false) (q : Q (.dat pD)) : wAsked [.int 5, .int m, .int e, c] Q ex := by
  refine ⟨5, _, _, _, rfl, .inr (.inr (.inr (.inl ⟨rfl, rfl, rfl, pc, fun z => ?_, fun m' e' _ _ z => ?_, fun m' d' e' e2 _ _ _ _ z => q, fun m' d' pl' e' e2 e3 _ _ _ _ x5 x6 => ?_⟩)))⟩
  · rw [whole_yes m0 m1] at z; cases z
  · cases e'
    rw [whole_yes e0 e1] at z; cases z
  · cases e'
    cases e2
    subst e3
    rw [whole_yes x5 (by omega)] at hc; cases hc
theorem at_count {b : D} (m0 : 0 ≤ m) (m1 : m ≤ 24) (pb : plainD b = true) (pc : plainD c = true) (hb : wholeD b (some 0) (some m) = false) (q : Q (.dat (cD m))) : wAsked [.int 5, .int m, b, c] Q ex := by
  refine ⟨5, _, _, _, rfl, .inr (.inr (.inr (.inl ⟨rfl, rfl, pb, pc, fun z => ?_, fun m' e' _ _ z => ?_, fun m' d' e' e2 _ _ x3 x4 z => ?_, fun m' d' pl' e' e2 e3 _ _ x3 x4 _ _ => ?_⟩)))⟩
  · rw [whole_yes m0 m1] at z; cases z
  · cases e'
    exact q
  · cases e'
    subst e2
    rw [whole_yes x3 x4] at hb; cases hb
  · cases e'
    subst e2
    rw [whole_yes x3 x4] at hb; cases hb
theorem num_told {n : Int} (m0 : 0 ≤ m) (m1 : m ≤ 24) (n0 : 0 ≤ n) (n1 : n < allI m) (q : Q (.dat (tD (rowT (numRow m n))))) : wAsked [.int 6, .int m, .int n, c] Q ex := by
  refine ⟨6, _, _, _, rfl, .inr (.inr (.inr (.inr (.inl ⟨rfl, rfl, rfl, fun z => ?_, fun m' e' _ _ z => ?_, fun m' n' e' e2 _ _ _ _ => ?_⟩))))⟩
  · rw [whole_yes m0 m1] at z; cases z
  · cases e'
    rw [whole_yes n0 (by omega)] at z; cases z
  · cases e'
    cases e2
    exact q
theorem num_place {b : D} (m0 : 0 ≤ m) (m1 : m ≤ 24) (pb : plainD b = true) (hb : wholeD b (some 0) (some (allI m - 1)) = false) (q : Q (.dat pD)) : wAsked [.int 6, .int m, b, c] Q ex := by
  refine ⟨6, _, _, _, rfl, .inr (.inr (.inr (.inr (.inl ⟨rfl, rfl, pb, fun z => ?_, fun m' e' _ _ z => q, fun m' n' e' e2 _ _ x3 x4 => ?_⟩))))⟩
  · rw [whole_yes m0 m1] at z; cases z
  · cases e'
    subst e2
    rw [whole_yes x3 (by omega)] at hb; cases hb
theorem fall_told {e : Int} (m0 : 0 ≤ m) (m1 : m ≤ 24) (e0 : 0 ≤ e) (e1 : e ≤ 24) (q : Q (.dat (tD (.int (prm m e))))) : wAsked [.int 7, .int m, .int e, c] Q ex := by
  refine ⟨7, _, _, _, rfl, .inr (.inr (.inr (.inr (.inr (.inl ⟨rfl, rfl, rfl, fun z => ?_, fun m' d' e' e2 _ _ _ _ => ?_⟩)))))⟩
  · rcases z with z | z
    · rw [whole_yes m0 m1] at z; cases z
    · rw [whole_yes e0 e1] at z; cases z
  · cases e'
    cases e2
    exact q
theorem all_told {b : D} (m0 : 0 ≤ m) (m1 : m ≤ 24) (q : Q (.dat (tD (.int (allI m))))) : wAsked [.int 8, .int m, b, c] Q ex := by
  refine ⟨8, _, _, _, rfl, .inr (.inr (.inr (.inr (.inr (.inr (.inl ⟨rfl, rfl, fun z => ?_, fun m' e' _ _ => ?_⟩))))))⟩
  · rw [whole_yes m0 m1] at z; cases z
  · cases e'
    exact q
/-- a wrong first number -/
theorem odd_count {a b : D} (hi : i = 0 ∨ i = 5 ∨ i = 6 ∨ i = 7 ∨ i = 8) (pa : plainD a = true) (pb : plainD b = true) (pc : plainD c = true) (ha : wholeD a (some 0) (some 24) = false) (q : Q (.dat (cD 24))) : wAsked [.int i, a, b, c] Q ex := by
  have no : ∀ n : Int, a = .int n → 0 ≤ n → n ≤ 24 → False := fun n e x1 x2 => by
    subst e
    rw [whole_yes x1 x2] at ha; cases ha
  rcases hi with rfl | rfl | rfl | rfl | rfl
  · exact ⟨_, _, _, _, rfl, .inl ⟨rfl, pa, fun _ => q, fun z => by rw [ha] at z; cases z⟩⟩
  · exact ⟨_, _, _, _, rfl, .inr (.inr (.inr (.inl ⟨rfl, pa, pb, pc, fun _ => q, fun m e x1 x2 _ => (no m e x1 x2).elim, fun m d e _ x1 x2 _ _ _ => (no m e x1 x2).elim, fun m d pl e _ _ x1 x2 _ _ _ _ => (no m e x1 x2).elim⟩)))⟩
  · exact ⟨_, _, _, _, rfl, .inr (.inr (.inr (.inr (.inl ⟨rfl, pa, pb, fun _ => q, fun m e x1 x2 _ => (no m e x1 x2).elim, fun m d e _ x1 x2 _ _ => (no m e x1 x2).elim⟩))))⟩
  · exact ⟨_, _, _, _, rfl, .inr (.inr (.inr (.inr (.inr (.inl ⟨rfl, pa, pb, fun _ => q, fun m d e _ x1 x2 _ _ => (no m e x1 x2).elim⟩)))))⟩
  · exact ⟨_, _, _, _, rfl, .inr (.inr (.inr (.inr (.inr (.inr (.inl ⟨rfl, pa, fun _ => q, fun m e x1 x2 => (no m e x1 x2).elim⟩))))))⟩
theorem fall_count {b : D} (m0 : 0 ≤ m) (m1 : m ≤ 24) (pb : plainD b = true) (hb : wholeD b (some 0) (some 24) = false) (q : Q (.dat (cD 24))) : wAsked [.int 7, .int m, b, c] Q ex :=
  ⟨7, _, _, _, rfl, .inr (.inr (.inr (.inr (.inr (.inl ⟨rfl, rfl, pb, fun _ => q, fun m' d' e' e2 _ _ x3 x4 => by subst e2; rw [whole_yes x3 x4] at hb; cases hb⟩)))))⟩
end
theorem prm_over {m e : Int} (m0 : 0 ≤ m) (h : m < e) : prm m e = 0 := by
  exact PySem.W.mcPerm_above h
theorem allI_last {m : Int} (m0 : 0 ≤ m) : allI m = shorterI m m.toNat + prm m m := by
  have h := allI_cut (m := m) (d := m.toNat) (by omega)
  rw [show ((m.toNat : Nat) : Int) = m by omega] at h
  have e : rgI m (m + 1) = [m] := by
    unfold rgI
    rw [show (m + 1 - m).toNat = 1 by omega]
    simp
  rw [e] at h
  rw [h]
  unfold shorterI
  rw [show ((m.toNat : Nat) : Int) = m by omega]
  simp
theorem shorter_le {m : Int} {d : Nat} (h : (d : Int) ≤ m) : shorterI m d + prm m d ≤ allI m ∧ 0 ≤ shorterI m d := by
  have h1 := allI_cut (m := m) (d := d) (by omega)
  have h2 := prmsum_pos (m := m) (d := (d : Int)) h (by omega)
  refine ⟨by unfold shorterI; omega, ?_⟩
  unfold shorterI
  have gen : ∀ l : List Int, (∀ x ∈ l, 0 ≤ x) → 0 ≤ l.sum := by
    intro l
    induction l with
    | nil => intro _; simp
    | cons a l ih =>
      intro h
      rw [List.sum_cons]
      have h1 := h a List.mem_cons_self
      have h2 := ih fun x hx => h x (List.mem_cons_of_mem _ hx)
      omega
  refine gen _ fun x hx => ?_
  obtain ⟨j, hj, rfl⟩ := List.mem_map.mp hx
  have hm := rgI_mem.mp hj
  have : 1 ≤ prm m ((j.toNat : Nat) : Int) := prm_pos (by omega)
  rw [show ((j.toNat : Nat) : Int) = j by omega] at this
  omega
theorem g2 {n : Int} {is : List Int} {t : D} (h : gRow 2 n is t) : tupI t is := by
  rcases h with ⟨_, h⟩ | ⟨z, _⟩ | ⟨z, _⟩
  · exact h
  · exact absurd z (by decide)
  · exact absurd z (by decide)
theorem g3 {n : Int} {is : List Int} {t : D} (h : gRow 3 n is t) : t = .int (placeL (rgI 0 n) is) := by
  rcases h with ⟨z, _⟩ | ⟨_, h⟩ | ⟨z, _⟩
  · exact absurd z (by decide)
  · exact h
  · exact absurd z (by decide)
theorem g4 {n : Int} {is : List Int} {t : D} (h : gRow 4 n is t) : t = .int (placeL (rgI 0 n) is + shorterI n is.length) := by
  rcases h with ⟨z, _⟩ | ⟨z, _⟩ | ⟨_, h⟩
  · exact absurd z (by decide)
  · exact absurd z (by decide)
  · exact h
theorem sc_gr : FnScope ["hand", "m", "row", "d", "place", "shorter", "handed", "last", "many", "above", "wide", "which", "due", "length", "at"] ["hand"] (defScope s_gr) := ⟨rfl, rfl, rfl, by decide +kernel, rfl, by decide +kernel, by decide +kernel⟩
def wTrue1 : DW := fun ds Q _ => ds = [.hnd] ∧ Q (.dat (.bl true))
theorem ok_gr {f : Addr} {fd : FuncData} (F : Fun K "_law_great" "_law_great" s_gr f fd) (T : Bl mg) (nsum : mg "sum" = none) (c_law_draw : Cal P w K mg base CX0 "_law_draw" 2 (spD K wDraw)) (c_law_some_row : Cal P w K mg base CX0 "_law_some_row" 3 (spD K wSomeRow)) (c_law_seq : Cal P w K mg base CX0 "_law_seq" 3 (spD K wSeqd))
    (c_law_exact : Cal P w K mg base CX0 "_law_exact" 4 (spD K (wExact 4))) (c_law_asked : Cal P w K mg base CX0 "_law_asked" 9 (spD K wAsked)) (c_law_no_count : Cal P w K mg base CX0 "_law_no_count" 3 (spD K wNoCount)) (c_law_falling : Cal P w K mg base CX0 "_law_falling" 1 (spD K wLFall)) (c_law_own_place : Cal P w K mg base CX0 "_law_own_place" 2 (spD K wOwnPl)) :
    FnOk P w K mg base CX0 10 f fd ["hand"] (spD K wTrue1) := by
  refine okD F sc_gr (fun ds Q ex h => ?_) (fun cdv A outer s H E hr md F0 a0 => ⟨_, _,
      (dss_cons (ds_setF (i := 1) sc_gr.nd rfl (Or.inr rfl) (de_call c_law_draw (hr.mono (by decide)) (by rfl) (da_cons (de_var (pv 0)) (da_cons de_int da_nil))))
      (dss_cons (ds_setF (i := 2) sc_gr.nd rfl (Or.inl rfl) (de_call c_law_some_row (hr.mono (by decide)) (by rfl) (da_cons (de_var (pv 0)) (da_cons (de_var (pv 1)) (da_cons (de_call c_law_draw (hr.mono (by decide)) (by rfl) (da_cons (de_var (pv 0)) (da_cons (de_op (op_addA K) opd_add (de_var (pv 1)) de_int) da_nil))) da_nil)))))
      (dss_cons (ds_setF (i := 3) sc_gr.nd rfl (Or.inl rfl) (de_callB (klen K) cad_len (by rfl) T.n_len PySem.boot_len (da_cons (de_var (pv 2)) da_nil)))
      (dss_cons (ds_setF (i := 4) sc_gr.nd rfl (Or.inl rfl) (de_call c_law_own_place (hr.mono (by decide)) (by rfl) (da_cons (de_var (pv 1)) (da_cons (de_var (pv 2)) da_nil))))
      (dss_cons (ds_setF (i := 5) sc_gr.nd rfl (Or.inl rfl) (de_callB (ksum K rfl) cad_sum (by rfl) nsum (by decide +kernel) (da_cons (de_lc (own := [("length", 13)]) rfl sc_gr.nd (di_range1 (by rfl) T.n_range (de_var (pv 3))) (blkOk_by (own := [("length", 13)]) (by show blkC ["hand", "m", "row", "d", "place", "shorter", "handed", "last", "many", "above", "wide", "which", "due", "length", "at"] (defScope s_gr) _ _ = true; decide +kernel)) (fun _ _ _ _ _ _ _ _ => (dg_name (i := 13) sc_gr.nd rfl (Or.inl rfl))) (fun _ _ _ _ _ _ _ _ => dps_nil) (fun _ _ _ _ _ _ _ _ => (de_call c_law_falling (hr.mono (by decide)) (by rfl) (da_cons (de_var (pv 1)) (da_cons (de_var (pv 13)) da_nil)))) (by decide) s) da_nil)))
      (dss_cons (ds_setF (i := 6) sc_gr.nd rfl (Or.inl rfl) (de_call c_law_seq (hr.mono (by decide)) (by rfl) (da_cons (de_var (pv 0)) (da_cons (de_var (pv 2)) da_nil))))
      (dss_cons (ds_for PassesOwn.never rfl (di_seq K (de_tup (da_cons (de_tup (da_cons de_int (da_cons (de_var (pv 2)) da_nil))) (da_cons (de_tup (da_cons de_int (da_cons (de_var (pv 4)) da_nil))) (da_cons (de_tup (da_cons de_int (da_cons (de_op (op_addA K) opd_add (de_var (pv 5)) (de_var (pv 4))) da_nil))) da_nil))))) (dg_tup K (n := 2) rfl (dgs_cons (dg_name (i := 11) sc_gr.nd rfl (Or.inl rfl)) (dgs_cons (dg_name (i := 12) sc_gr.nd rfl (Or.inl rfl)) dgs_nil)))
        (dss_one (ds_if (dt_not (dt_truth K (de_call c_law_exact (hr.mono (by decide)) (by rfl) (da_cons (de_call c_law_asked (hr.mono (by decide)) (by rfl) (da_cons (de_var (pv 11)) (da_cons (de_var (pv 1)) (da_cons (de_var (pv 6)) (da_cons de_int da_nil))))) (da_cons (de_tup (da_cons de_str (da_cons (de_var (pv 12)) da_nil))) da_nil)))))
          (dss_one (ds_ret de_bl))
          dss_nil)))
      (dss_cons (ds_if (DWs.ts (dw_or (dt_cmp (kneD K hr.units) opd_ne (de_callTy (ktuple_of K) cad_tuple (by rfl) T.n_tuple (by decide +kernel) (da_cons (de_var (pv 6)) da_nil)) (de_var (pv 2)) (nomark _)) (dw_or1 (dt_not (dt_truth K (de_call c_law_exact (hr.mono (by decide)) (by rfl) (da_cons (de_call c_law_asked (hr.mono (by decide)) (by rfl) (da_cons de_int (da_cons (de_var (pv 1)) (da_cons (de_var (pv 3)) (da_cons (de_var (pv 4)) da_nil))))) (da_cons (de_tup (da_cons de_str (da_cons (de_var (pv 2)) da_nil))) da_nil))))))))
        (dss_one (ds_ret de_bl))
        dss_nil)
      (dss_cons (ds_if (dt_not (dt_truth K (de_call c_law_exact (hr.mono (by decide)) (by rfl) (da_cons (de_call c_law_asked (hr.mono (by decide)) (by rfl) (da_cons de_int (da_cons (de_var (pv 1)) (da_cons (de_op (op_addA K) opd_add (de_var (pv 5)) (de_var (pv 4))) (da_cons de_int da_nil))))) (da_cons (de_tup (da_cons de_str (da_cons (de_var (pv 2)) da_nil))) da_nil)))))
        (dss_one (ds_ret de_bl))
        dss_nil)
      (dss_cons (ds_setF (i := 7) sc_gr.nd rfl (Or.inl rfl) (de_callTy (ktuple_of K) cad_tuple (by rfl) T.n_tuple (by decide +kernel) (da_cons (de_lc (own := [("at", 14)]) rfl sc_gr.nd (di_range1 (by rfl) T.n_range (de_var (pv 3))) (blkOk_by (own := [("at", 14)]) (by show blkC ["hand", "m", "row", "d", "place", "shorter", "handed", "last", "many", "above", "wide", "which", "due", "length", "at"] (defScope s_gr) _ _ = true; decide +kernel)) (fun _ _ _ _ _ _ _ _ => (dg_name (i := 14) sc_gr.nd rfl (Or.inl rfl))) (fun _ _ _ _ _ _ _ _ => dps_nil) (fun _ _ _ _ _ _ _ _ => (de_op op_sub opd_I0 (de_op op_sub opd_I0 (de_var (pv 1)) de_int) (de_var (pv 14)))) (by decide) s) da_nil)))
      (dss_cons (ds_if (dt_not (dt_truth K (de_call c_law_exact (hr.mono (by decide)) (by rfl) (da_cons (de_call c_law_asked (hr.mono (by decide)) (by rfl) (da_cons de_int (da_cons (de_var (pv 1)) (da_cons (de_var (pv 3)) (da_cons (de_op op_sub opd_I0 (de_call c_law_falling (hr.mono (by decide)) (by rfl) (da_cons (de_var (pv 1)) (da_cons (de_var (pv 3)) da_nil))) de_int) da_nil))))) (da_cons (de_tup (da_cons de_str (da_cons (de_var (pv 7)) da_nil))) da_nil)))))
        (dss_one (ds_ret de_bl))
        dss_nil)
      (dss_cons (ds_if (DWs.ts (dw_or (dt_not (dt_truth K (de_call c_law_exact (hr.mono (by decide)) (by rfl) (da_cons (de_call c_law_asked (hr.mono (by decide)) (by rfl) (da_cons de_int (da_cons (de_var (pv 1)) (da_cons (de_var (pv 3)) (da_cons (de_call c_law_falling (hr.mono (by decide)) (by rfl) (da_cons (de_var (pv 1)) (da_cons (de_var (pv 3)) da_nil))) da_nil))))) (da_cons (de_tup (da_cons de_str da_nil)) da_nil))))) (dw_or1 (dt_not (dt_truth K (de_call c_law_exact (hr.mono (by decide)) (by rfl) (da_cons (de_call c_law_asked (hr.mono (by decide)) (by rfl) (da_cons de_int (da_cons (de_var (pv 1)) (da_cons (de_var (pv 3)) (da_cons (de_un un_neg und_neg de_int) da_nil))))) (da_cons (de_tup (da_cons de_str da_nil)) da_nil))))))))
        (dss_one (ds_ret de_bl))
        dss_nil)
      (dss_cons (ds_setF (i := 8) sc_gr.nd rfl (Or.inl rfl) (de_callB (ksum K rfl) cad_sum (by rfl) nsum (by decide +kernel) (da_cons (de_lc (own := [("length", 13)]) rfl sc_gr.nd (di_range1 (by rfl) T.n_range (de_op (op_addA K) opd_add (de_var (pv 1)) de_int)) (blkOk_by (own := [("length", 13)]) (by show blkC ["hand", "m", "row", "d", "place", "shorter", "handed", "last", "many", "above", "wide", "which", "due", "length", "at"] (defScope s_gr) _ _ = true; decide +kernel)) (fun _ _ _ _ _ _ _ _ => (dg_name (i := 13) sc_gr.nd rfl (Or.inl rfl))) (fun _ _ _ _ _ _ _ _ => dps_nil) (fun _ _ _ _ _ _ _ _ => (de_call c_law_falling (hr.mono (by decide)) (by rfl) (da_cons (de_var (pv 1)) (da_cons (de_var (pv 13)) da_nil)))) (by decide) s) da_nil)))
      (dss_cons (ds_if (dt_not (dt_truth K (de_call c_law_exact (hr.mono (by decide)) (by rfl) (da_cons (de_call c_law_asked (hr.mono (by decide)) (by rfl) (da_cons de_int (da_cons (de_var (pv 1)) (da_cons (de_op op_sub opd_I0 (de_var (pv 8)) de_int) (da_cons de_int da_nil))))) (da_cons (de_tup (da_cons de_str (da_cons (de_callTy (ktuple_of K) cad_tuple (by rfl) T.n_tuple (by decide +kernel) (da_cons (de_lc (own := [("at", 14)]) rfl sc_gr.nd (di_range1 (by rfl) T.n_range (de_var (pv 1))) (blkOk_by (own := [("at", 14)]) (by show blkC ["hand", "m", "row", "d", "place", "shorter", "handed", "last", "many", "above", "wide", "which", "due", "length", "at"] (defScope s_gr) _ _ = true; decide +kernel)) (fun _ _ _ _ _ _ _ _ => (dg_name (i := 14) sc_gr.nd rfl (Or.inl rfl))) (fun _ _ _ _ _ _ _ _ => dps_nil) (fun _ _ _ _ _ _ _ _ => (de_op op_sub opd_I0 (de_op op_sub opd_I0 (de_var (pv 1)) de_int) (de_var (pv 14)))) (by decide) s) da_nil)) da_nil))) da_nil)))))
        (dss_one (ds_ret de_bl))
        dss_nil)
      (dss_cons (ds_if (DWs.ts (dw_or (dt_not (dt_truth K (de_call c_law_exact (hr.mono (by decide)) (by rfl) (da_cons (de_call c_law_asked (hr.mono (by decide)) (by rfl) (da_cons de_int (da_cons (de_var (pv 1)) (da_cons de_int (da_cons de_int da_nil))))) (da_cons (de_tup (da_cons de_str (da_cons (de_var (pv 8)) da_nil))) da_nil))))) (dw_or1 (dt_not (dt_truth K (de_call c_law_exact (hr.mono (by decide)) (by rfl) (da_cons (de_call c_law_asked (hr.mono (by decide)) (by rfl) (da_cons de_int (da_cons (de_var (pv 1)) (da_cons (de_var (pv 8)) (da_cons de_int da_nil))))) (da_cons (de_tup (da_cons de_str da_nil)) da_nil))))))))
        (dss_one (ds_ret de_bl))
        dss_nil)
      (dss_cons (ds_setF (i := 9) sc_gr.nd rfl (Or.inl rfl) (de_call c_law_draw (hr.mono (by decide)) (by rfl) (da_cons (de_var (pv 0)) (da_cons de_int da_nil))))
      (dss_cons (ds_setF (i := 10) sc_gr.nd rfl (Or.inl rfl) (de_ifExp (dt_cmp op_le opd_B0 (de_var (pv 9)) (de_var (pv 1)) (nomark _)) (de_call c_law_falling (hr.mono (by decide)) (by rfl) (da_cons (de_var (pv 1)) (da_cons (de_var (pv 9)) da_nil))) de_int))
      (dss_one (ds_ret (de_and (de_call c_law_exact (hr.mono (by decide)) (by rfl) (da_cons (de_call c_law_asked (hr.mono (by decide)) (by rfl) (da_cons de_int (da_cons (de_var (pv 1)) (da_cons (de_var (pv 9)) (da_cons de_int da_nil))))) (da_cons (de_tup (da_cons de_str (da_cons (de_var (pv 10)) da_nil))) da_nil))) (de_one (de_call c_law_exact (hr.mono (by decide)) (by rfl) (da_cons (de_call c_law_asked (hr.mono (by decide)) (by rfl) (da_cons de_int (da_cons (de_var (pv 1)) (da_cons (de_call c_law_no_count (hr.mono (by decide)) (by rfl) (da_cons (de_var (pv 0)) (da_cons (de_var (pv 8)) da_nil))) (da_cons de_int da_nil))))) (da_cons (de_tup (da_cons de_str da_nil)) da_nil))))))))))))))))))))))))
      , fun ds Q ex h => ?_⟩)
  · obtain ⟨rfl, _⟩ := h
    rfl
  · obtain ⟨rfl, q⟩ := h
    refine sq_go fun S hS => ?_
    walk_at "d"
    refine ⟨25, rfl, by decide, by decide, fun m h0 m1 => ?_⟩
    walk_at "d"
    refine hS _ (sq_go fun S hS => ?_)
    walk_at "d"
    refine ⟨m + 1, rfl, by omega, by omega, fun d d0 d1 => ?_⟩
    walk_at "d"
    refine ⟨m, d, rfl, d0, by omega, by omega, fun is nd hm hl => ?_⟩
    walk_at "d"
    refine hS _ (sq_go fun S hS => ?_)
    walk_at "d"
    refine hS _ (sq_go fun S hS => ?_)
    walk_at "d"
    obtain ⟨p0, p1, p2⟩ := place_back is (rgI 0 m) (rgI_nodup 0 m) nd fun i hi => rgI_mem.mpr (hm i hi)
    rw [rgI_len, show ((((m - 0).toNat : Nat)) : Int) = m by omega] at p1
    have m1' : m ≤ 24 := by omega
    have hdl : (is.length : Int) = d := by omega
    obtain ⟨s1, s0⟩ := shorter_le (m := m) (d := is.length) (by omega)
    have il : is.length ≤ 1000 := by omega
    refine ⟨m, is, rfl, h0, m1', nd, hm, ?_⟩
    walk_at "d"
    refine hS _ (sq_go fun S hS => ?_)
    walk_at "d"
    rw [List.length_map, rgD_I]
    refine ⟨by unfold R62; omega, by unfold R62; omega, dLc_ints (fun _ => true) (fun d => .int (prm m d)) (by rw [rgI_len]; omega) (fun i _ _ => rfl) (fun i hi Z0 C0 w1 _ => ?_) ?_⟩
    · have hmm := rgI_mem.mp hi
      walk_at "d"
      exact ⟨m, i, rfl, hmm.1, by omega, m1', w1 rfl _ _ rfl rfl⟩
    rw [List.filter_eq_self.mpr (by simp)]
    refine ⟨(rgI 0 is.length).map (prm m), by rw [List.map_map]; rfl, ?_⟩
    rw [show ((rgI 0 is.length).map (prm m)).sum = shorterI m is.length from rfl]
    walk_at "d"
    refine hS _ (sq_go fun S hS => ?_)
    walk_at "d"
    refine seqd_go rfl rfl fun r x hv hvl hmv hx => ?_
    have hx : x = .lst (is.map D.int) ∨ x = rowT is := hx
    have hxs : seqOfD x = some (is.map D.int) := by rcases hx with rfl | rfl <;> rfl
    have hxt : tupOfD x = some (rowT is) := by rcases hx with rfl | rfl <;> rfl
    simp only [hvl, hmv, hv]
    walk_at "d"
    refine hS _ (sq_go fun S hS => ?_)
    walk_at "d"
    refine ⟨by decide, by decide, by decide, by decide, ?_⟩
    simp only [dForL]
    walk_at "d"
    refine row_told (i := 2) (.inl rfl) h0 m1' nd hm hxs fun t ht => ?_
    walk_at "d"
    replace ht := g2 ht
    refine ⟨by decide, _, _, rfl, exOk_two (by decide +kernel) (exOk_row ht (.inl rfl) il), ?_⟩
    walk_at "d"
    refine row_told (i := 3) (.inr (.inl rfl)) h0 m1' nd hm hxs fun t ht => ?_
    walk_at "d"
    obtain rfl := g3 ht
    refine ⟨by decide, _, _, rfl, exOk_two (by decide +kernel) (exOk_base rfl), ?_⟩
    walk_at "d"
    refine row_told (i := 4) (.inr (.inr rfl)) h0 m1' nd hm hxs fun t ht => ?_
    walk_at "d"
    obtain rfl := g4 ht
    refine ⟨by decide, _, _, rfl, exOk_two (by decide +kernel) (exOk_base (by rw [Int.add_comm]; rfl)), ?_⟩
    walk_at "d"
    refine hS _ (sq_go fun S hS => ?_)
    walk_at "d"
    have hsame : eqD (rowT is) (rowT is) = true := by rw [eq_tupI (.inl rfl) (.inl rfl)]; simp
    rw [hxt]
    walk_at "d"
    have upl : unplace (rgI 0 m) ((is.length : Int)).toNat (placeL (rgI 0 m) is) = is := by rw [Int.toNat_natCast]; exact p2
    have mex : exOk 4 (tD (rowT is)) (tD (rowT is)) := exOk_two (by decide +kernel) (exOk_row (.inl rfl) (.inl rfl) il)
    have pex : exOk 4 pD pD := exOk_one (by decide +kernel)
    refine ⟨shp_tupI (.inl rfl), shp_tupI (.inl rfl), ite_f (by rw [hsame]; decide) (at_told h0 m1' (by omega) (by omega) p0 p1 ?_)⟩
    rw [upl]
    refine ⟨by decide, _, _, rfl, mex, (fun z => by cases z), ?_⟩
    walk_at "d"
    refine hS _ (sq_go fun S hS => ?_)
    walk_at "d"
    refine num_told h0 m1' (by omega) (by omega) ?_
    rw [numRow_at (by omega) p0 p1, p2]
    refine ⟨by decide, _, _, rfl, mex, (fun z => by cases z), ?_⟩
    walk_at "d"
    refine hS _ (sq_go fun S hS => ?_)
    walk_at "d"
    have lastD : ∀ e : Int, 0 ≤ e → e ≤ m → unplace (rgI 0 m) e.toNat (prm m e - 1) = (rgI 0 e).map fun i => m - 1 - i := fun e e0 e1 => by
      rw [← rgI_rev e0 e1, ← unplace_last e.toNat (rgI 0 m) (by rw [rgI_len]; omega), rgI_len, show ((((m - 0).toNat : Nat)) : Int) = m by omega, show ((e.toNat : Nat) : Int) = e by omega]
    have llen : ∀ e : Int, e ≤ m → ((rgI 0 e).map fun i => m - 1 - i).length ≤ 1000 := fun e he => by rw [List.length_map, rgI_len]; omega
    rw [rgD_I]
    refine ⟨by unfold R62; omega, by unfold R62; omega, dLc_ints (fun _ => true) (fun i => .int (m - 1 - i)) (by rw [rgI_len]; omega) (fun i _ _ => rfl) (fun i hi Z0 C0 w1 _ => ?_) ?_⟩
    · walk_at "d"
      exact w1 rfl _ _ rfl rfl
    rw [List.filter_eq_self.mpr (by simp), show (rgI 0 (is.length : Int)).map (fun i => D.int (m - 1 - i)) = ((rgI 0 (is.length : Int)).map fun i => m - 1 - i).map D.int by rw [List.map_map]; rfl]
    refine hS _ (sq_go fun S hS => ?_)
    walk_at "d"
    have nv : ∀ (a : D), ((R.dat a).isVar = true → False) := fun a z => by cases z
    refine ⟨m, is.length, rfl, by omega, by omega, m1', ?_⟩
    walk_at "d"
    refine at_told h0 m1' (by omega) (by omega) (by omega) (by omega) ?_
    rw [lastD is.length (by omega) (by omega)]
    refine ⟨by decide, _, _, rfl, exOk_two (by decide +kernel) (exOk_row (.inl rfl) (.inl rfl) (llen _ (by omega))), (fun z => by cases z), ?_⟩
    walk_at "d"
    refine hS _ (sq_go fun S hS => ?_)
    walk_at "d"
    refine ⟨m, is.length, rfl, by omega, by omega, m1', ?_⟩
    walk_at "d"
    refine at_place h0 m1' (by omega) (by omega) rfl (by show (decide ((0 : Int) ≤ prm m is.length) && decide (prm m is.length ≤ prm m is.length - 1)) = false; rw [decide_eq_false (show ¬ prm m is.length ≤ prm m is.length - 1 by omega), Bool.and_false]) ?_
    refine ⟨by decide, _, _, rfl, pex, (fun z => by cases z), ?_⟩
    walk_at "d"
    refine at_place h0 m1' (by omega) (by omega) rfl rfl ?_
    refine ⟨by decide, _, _, rfl, pex, (fun z => by cases z), ?_⟩
    walk_at "d"
    refine hS _ (sq_go fun S hS => ?_)
    walk_at "d"
    rw [rgD_I]
    refine ⟨by unfold R62; omega, by unfold R62; omega, dLc_ints (fun _ => true) (fun d => .int (prm m d)) (by rw [rgI_len]; omega) (fun i _ _ => rfl) (fun i hi Z0 C0 w1 _ => ?_) ?_⟩
    · have hmm := rgI_mem.mp hi
      walk_at "d"
      exact ⟨m, i, rfl, hmm.1, by omega, m1', w1 rfl _ _ rfl rfl⟩
    rw [List.filter_eq_self.mpr (by simp)]
    refine ⟨(rgI 0 (m + 1)).map (prm m), by rw [List.map_map]; rfl, ?_⟩
    rw [show ((rgI 0 (m + 1)).map (prm m)).sum = allI m from rfl]
    refine hS _ (sq_go fun S hS => ?_)
    walk_at "d"
    have pm1 : 1 ≤ prm m m := by
      have := prm_pos (n := m) (k := m.toNat) (by omega)
      rw [show ((m.toNat : Nat) : Int) = m by omega] at this
      exact this
    have aL := allI_last h0
    have sL := shorter_le (m := m) (d := m.toNat) (by omega)
    refine num_told h0 m1' (by omega) (by omega) ?_
    have eN : numRow m (allI m - 1) = (rgI 0 m).map fun i => m - 1 - i := by
      rw [show allI m - 1 = shorterI m m.toNat + (prm m m - 1) by omega, numRow_at (by omega) (by omega) (by rw [show ((m.toNat : Nat) : Int) = m by omega]; omega)]
      exact lastD m h0 (by omega)
    rw [eN, rgD_I]
    refine ⟨by unfold R62; omega, by unfold R62; omega, dLc_ints (fun _ => true) (fun i => .int (m - 1 - i)) (by rw [rgI_len]; omega) (fun i _ z => by cases z) (fun i hi Z0 C0 w1 _ => ?_) ?_⟩
    · walk_at "d"
      exact w1 rfl _ _ rfl rfl
    rw [List.filter_eq_self.mpr (by simp), show (rgI 0 m).map (fun i => D.int (m - 1 - i)) = ((rgI 0 m).map fun i => m - 1 - i).map D.int by rw [List.map_map]; rfl]
    refine ⟨by decide, _, _, rfl, exOk_two (by decide +kernel) (exOk_row (.inl rfl) (.inl rfl) (llen _ (by omega))), (fun z => by cases z), ?_⟩
    walk_at "d"
    refine hS _ (sq_go fun S hS => ?_)
    walk_at "d"
    refine all_told h0 m1' ?_
    refine ⟨by decide, _, _, rfl, exOk_two (by decide +kernel) (exOk_base rfl), ?_⟩
    walk_at "d"
    refine num_place h0 m1' rfl (by show (decide ((0 : Int) ≤ allI m) && decide (allI m ≤ allI m - 1)) = false; rw [decide_eq_false (show ¬ allI m ≤ allI m - 1 by omega), Bool.and_false]) ?_
    refine ⟨by decide, _, _, rfl, pex, ?_⟩
    walk_at "d"
    refine hS _ (sq_go fun S hS => ?_)
    walk_at "d"
    refine ⟨25, rfl, by decide, by decide, fun e e0 e1 => ?_⟩
    walk_at "d"
    refine hS _ (sq_go fun S hS => ?_)
    walk_at "d"
    refine ite_d (fun c => ?_) (fun c => ?_)
    · have c : e ≤ m := by simpa using c
      refine ⟨m, e, rfl, e0, c, m1', ?_⟩
      walk_at "d"
      refine hS _ ?_
      walk_at "d"
      refine fall_told h0 m1' e0 (by omega) ?_
      refine ⟨by decide, _, _, rfl, exOk_two (by decide +kernel) (exOk_base rfl), ?_⟩
      walk_at "d"
      refine ⟨allI m, rfl, by omega, fun d pd wd hd => ?_⟩
      walk_at "d"
      refine num_place h0 m1' pd (by
        cases d <;> first | rfl | skip
        rename_i i
        show (decide (0 ≤ i) && decide (i ≤ allI m - 1)) = false
        rcases hd i rfl with h | h
        · rw [decide_eq_false (show ¬ 0 ≤ i by omega), Bool.false_and]
        · rw [decide_eq_false (show ¬ i ≤ allI m - 1 by omega), Bool.and_false]) ?_
      exact ⟨by decide, _, _, rfl, pex, (fun z => by cases z), q⟩
    · have c : m < e := by simpa using c
      refine hS _ ?_
      walk_at "d"
      refine fall_told h0 m1' e0 (by omega) ?_
      rw [prm_over h0 c]
      refine ⟨by decide, _, _, rfl, exOk_two (by decide +kernel) (exOk_base rfl), ?_⟩
      walk_at "d"
      refine ⟨allI m, rfl, by omega, fun d pd wd hd => ?_⟩
      walk_at "d"
      refine num_place h0 m1' pd (by
        cases d <;> first | rfl | skip
        rename_i i
        show (decide (0 ≤ i) && decide (i ≤ allI m - 1)) = false
        rcases hd i rfl with h | h
        · rw [decide_eq_false (show ¬ 0 ≤ i by omega), Bool.false_and]
        · rw [decide_eq_false (show ¬ i ≤ allI m - 1 by omega), Bool.and_false]) ?_
      exact ⟨by decide, _, _, rfl, pex, (fun z => by cases z), q⟩
theorem sc_lrf : FnScope ["hand", "m", "row", "which", "odd", "top", "bad", "at"] ["hand"] (defScope s_lrf) := ⟨rfl, rfl, rfl, by decide +kernel, rfl, by decide +kernel, by decide +kernel⟩
theorem ok_lrf {f : Addr} {fd : FuncData} (F : Fun K "_law_refused" "_law_refused" s_lrf f fd) (T : Bl mg) (c_law_draw : Cal P w K mg base CX0 "_law_draw" 2 (spD K wDraw)) (c_law_some_row : Cal P w K mg base CX0 "_law_some_row" 3 (spD K wSomeRow)) (c_law_spoilt_row : Cal P w K mg base CX0 "_law_spoilt_row" 4 (spD K wSpoilt))
    (c_law_exact : Cal P w K mg base CX0 "_law_exact" 4 (spD K (wExact 4))) (c_law_asked : Cal P w K mg base CX0 "_law_asked" 9 (spD K wAsked)) (c_law_no_count : Cal P w K mg base CX0 "_law_no_count" 3 (spD K wNoCount)) :
    FnOk P w K mg base CX0 10 f fd ["hand"] (spD K wTrue1) := by
  refine okD F sc_lrf (fun ds Q ex h => ?_) (fun cdv A outer s H E hr md F0 a0 => ⟨_, _,
      (dss_cons (ds_setF (i := 1) sc_lrf.nd rfl (Or.inl rfl) (de_op (op_addA K) opd_add de_int (de_call c_law_draw (hr.mono (by decide)) (by rfl) (da_cons (de_var (pv 0)) (da_cons de_int da_nil)))))
      (dss_cons (ds_setF (i := 2) sc_lrf.nd rfl (Or.inl rfl) (de_call c_law_some_row (hr.mono (by decide)) (by rfl) (da_cons (de_var (pv 0)) (da_cons (de_var (pv 1)) (da_cons (de_call c_law_draw (hr.mono (by decide)) (by rfl) (da_cons (de_var (pv 0)) (da_cons (de_op (op_addA K) opd_add (de_var (pv 1)) de_int) da_nil))) da_nil)))))
      (dss_cons (ds_asg (de_call c_law_spoilt_row (hr.mono (by decide)) (by rfl) (da_cons (de_var (pv 0)) (da_cons (de_var (pv 1)) (da_cons (de_var (pv 2)) da_nil)))) (dg_tup K (n := 2) rfl (dgs_cons (dg_name (i := 6) sc_lrf.nd rfl (Or.inl rfl)) (dgs_cons (dg_name (i := 7) sc_lrf.nd rfl (Or.inl rfl)) dgs_nil))))
      (dss_cons (ds_for PassesOwn.never rfl (di_range2 (by rfl) T.n_range de_int de_int) (dg_name (i := 3) sc_lrf.nd rfl (Or.inl rfl))
        (dss_cons (ds_if (DWs.ts (dw_or (dt_not (dt_truth K (de_call c_law_exact (hr.mono (by decide)) (by rfl) (da_cons (de_call c_law_asked (hr.mono (by decide)) (by rfl) (da_cons (de_var (pv 3)) (da_cons (de_var (pv 1)) (da_cons (de_var (pv 6)) (da_cons de_int da_nil))))) (da_cons (de_tup (da_cons de_str (da_cons (de_var (pv 7)) da_nil))) da_nil))))) (dw_or1 (dt_not (dt_truth K (de_call c_law_exact (hr.mono (by decide)) (by rfl) (da_cons (de_ix (kix_seq K) opd_ix (de_call c_law_asked (hr.mono (by decide)) (by rfl) (da_cons (de_var (pv 3)) (da_cons (de_var (pv 1)) (da_cons (de_var (pv 2)) (da_cons de_int da_nil))))) de_int (fun _ _ => rfl)) (da_cons de_str da_nil))))))))
          (dss_one (ds_ret de_bl))
          dss_nil)
        (dss_one (ds_if (dt_not (dt_truth K (de_call c_law_exact (hr.mono (by decide)) (by rfl) (da_cons (de_call c_law_asked (hr.mono (by decide)) (by rfl) (da_cons (de_var (pv 3)) (da_cons (de_call c_law_no_count (hr.mono (by decide)) (by rfl) (da_cons (de_var (pv 0)) (da_cons de_int da_nil))) (da_cons (de_var (pv 6)) (da_cons de_int da_nil))))) (da_cons (de_tup (da_cons de_str (da_cons de_int da_nil))) da_nil)))))
          (dss_one (ds_ret de_bl))
          dss_nil))))
      (dss_cons (ds_setF (i := 4) sc_lrf.nd rfl (Or.inl rfl) (de_call c_law_no_count (hr.mono (by decide)) (by rfl) (da_cons (de_var (pv 0)) (da_cons de_int da_nil))))
      (dss_cons (ds_for PassesOwn.never rfl (di_seq K (de_tup (da_cons de_int (da_cons de_int (da_cons de_int (da_cons de_int (da_cons de_int da_nil))))))) (dg_name (i := 3) sc_lrf.nd rfl (Or.inl rfl))
        (dss_one (ds_if (dt_not (dt_truth K (de_call c_law_exact (hr.mono (by decide)) (by rfl) (da_cons (de_call c_law_asked (hr.mono (by decide)) (by rfl) (da_cons (de_var (pv 3)) (da_cons (de_var (pv 4)) (da_cons (de_un un_neg und_neg de_int) (da_cons (de_un un_neg und_neg de_int) da_nil))))) (da_cons (de_tup (da_cons de_str (da_cons de_int da_nil))) da_nil)))))
          (dss_one (ds_ret de_bl))
          dss_nil)))
      (dss_cons (ds_if (dt_not (dt_truth K (de_call c_law_exact (hr.mono (by decide)) (by rfl) (da_cons (de_call c_law_asked (hr.mono (by decide)) (by rfl) (da_cons de_int (da_cons (de_var (pv 1)) (da_cons (de_call c_law_no_count (hr.mono (by decide)) (by rfl) (da_cons (de_var (pv 0)) (da_cons (de_var (pv 1)) da_nil))) (da_cons (de_un un_neg und_neg de_int) da_nil))))) (da_cons (de_tup (da_cons de_str (da_cons (de_var (pv 1)) da_nil))) da_nil)))))
        (dss_one (ds_ret de_bl))
        dss_nil)
      (dss_cons (ds_if (dt_not (dt_truth K (de_call c_law_exact (hr.mono (by decide)) (by rfl) (da_cons (de_call c_law_asked (hr.mono (by decide)) (by rfl) (da_cons de_int (da_cons (de_var (pv 1)) (da_cons (de_call c_law_no_count (hr.mono (by decide)) (by rfl) (da_cons (de_var (pv 0)) (da_cons de_int da_nil))) (da_cons de_int da_nil))))) (da_cons (de_tup (da_cons de_str (da_cons de_int da_nil))) da_nil)))))
        (dss_one (ds_ret de_bl))
        dss_nil)
      (dss_cons (ds_if (dt_not (dt_truth K (de_call c_law_exact (hr.mono (by decide)) (by rfl) (da_cons (de_call c_law_asked (hr.mono (by decide)) (by rfl) (da_cons de_int (da_cons (de_call c_law_no_count (hr.mono (by decide)) (by rfl) (da_cons (de_var (pv 0)) (da_cons de_int da_nil))) (da_cons de_int (da_cons de_int da_nil))))) (da_cons (de_tup (da_cons de_str (da_cons de_int da_nil))) da_nil)))))
        (dss_one (ds_ret de_bl))
        dss_nil)
      (dss_cons (ds_setF (i := 5) sc_lrf.nd rfl (Or.inl rfl) (de_op (op_addA K) opd_add de_int (de_call c_law_draw (hr.mono (by decide)) (by rfl) (da_cons (de_var (pv 0)) (da_cons de_int da_nil)))))
      (dss_cons (ds_if (DWs.ts (dw_or (dt_not (dt_truth K (de_call c_law_exact (hr.mono (by decide)) (by rfl) (da_cons (de_call c_law_asked (hr.mono (by decide)) (by rfl) (da_cons de_int (da_cons (de_var (pv 5)) (da_cons (de_var (pv 5)) (da_cons de_int da_nil))))) (da_cons (de_tup (da_cons de_str (da_cons (de_var (pv 5)) da_nil))) da_nil))))) (dw_or1 (dt_not (dt_truth K (de_call c_law_exact (hr.mono (by decide)) (by rfl) (da_cons (de_call c_law_asked (hr.mono (by decide)) (by rfl) (da_cons de_int (da_cons (de_var (pv 1)) (da_cons de_int (da_cons de_int da_nil))))) (da_cons (de_tup (da_cons de_str (da_cons (de_var (pv 1)) da_nil))) da_nil))))))))
        (dss_one (ds_ret de_bl))
        dss_nil)
      (dss_one (ds_ret (de_call c_law_exact (hr.mono (by decide)) (by rfl) (da_cons (de_call c_law_asked (hr.mono (by decide)) (by rfl) (da_cons de_int (da_cons (de_call c_law_no_count (hr.mono (by decide)) (by rfl) (da_cons (de_var (pv 0)) (da_cons (de_var (pv 5)) da_nil))) (da_cons (de_var (pv 5)) (da_cons de_int da_nil))))) (da_cons (de_tup (da_cons de_str (da_cons (de_var (pv 5)) da_nil))) da_nil))))))))))))))))
      , fun ds Q ex h => ?_⟩)
  · obtain ⟨rfl, _⟩ := h
    rfl
  · obtain ⟨rfl, q⟩ := h
    have cex : ∀ k : Int, exOk 4 (cD k) (cD k) := fun k => exOk_two (by decide +kernel) (exOk_base rfl)
    have rex : ∀ k : Int, exOk 4 (rD k) (rD k) := fun k => exOk_two (by decide +kernel) (exOk_base rfl)
    refine sq_go fun S hS => ?_
    walk_at "d"
    refine ⟨24, rfl, by decide, by decide, fun m' h0' m1' => ?_⟩
    walk_at "d"
    obtain ⟨m, hm'⟩ : ∃ m, 1 + m' = m := ⟨_, rfl⟩
    rw [hm']
    have h0 : 0 ≤ m := by omega
    have m1 : m ≤ 24 := by omega
    refine hS _ (sq_go fun S hS => ?_)
    walk_at "d"
    refine ⟨m + 1, rfl, by omega, by omega, fun d d0 d1 => ?_⟩
    walk_at "d"
    refine ⟨m, d, rfl, d0, by omega, by omega, fun is nd hm hl => ?_⟩
    walk_at "d"
    refine hS _ (sq_go fun S hS => ?_)
    walk_at "d"
    refine ⟨m, is, rfl, nd, hm, by omega, fun bad k pb fb => ?_⟩
    walk_at "d"
    refine hS _ (sq_go fun S hS => ?_)
    walk_at "d"
    refine ⟨by unfold R62; decide, by unfold R62; decide, ?_⟩
    refine dFor_ind (fun es ρ => ∃ w : Option OV, (∀ x ∈ es, ∃ i : Int, x = .int i ∧ (i = 2 ∨ i = 3 ∨ i = 4)) ∧ ρ = [some (OV.dat .hnd), some (OV.dat (.int m)), some (OV.dat (rowT is)), w, none, none, some (OV.dat bad), some (OV.dat (.int k))]) ?_ ?_ _ _ ⟨none, fun x hx => ?_, rfl⟩
    · rintro ρ ⟨w, _, rfl⟩
      refine hS _ (sq_go fun S hS => ?_)
      walk_at "d"
      refine ⟨24, rfl, by decide, fun odd po wo _ => ?_⟩
      walk_at "d"
      refine hS _ (sq_go fun S hS => ?_)
      walk_at "d"
      refine ⟨by decide, ?_⟩
      refine dFor_ind (fun es ρ => ∃ w : Option OV, (∀ x ∈ es, ∃ i : Int, x = .int i ∧ (i = 0 ∨ i = 5 ∨ i = 6 ∨ i = 7 ∨ i = 8)) ∧ ρ = [some (OV.dat .hnd), some (OV.dat (.int m)), some (OV.dat (rowT is)), w, some (OV.dat odd), none, some (OV.dat bad), some (OV.dat (.int k))]) ?_ ?_ _ _ ⟨w, fun x hx => ?_, rfl⟩
      · rintro ρ ⟨w, _, rfl⟩
        refine hS _ (sq_go fun S hS => ?_)
        walk_at "d"
        refine ⟨m, rfl, h0, fun d pd wd _ => ?_⟩
        walk_at "d"
        refine at_count h0 m1 pd rfl wd ?_
        refine ⟨by decide, _, _, rfl, cex m, (fun z => by cases z), ?_⟩
        walk_at "d"
        refine hS _ (sq_go fun S hS => ?_)
        walk_at "d"
        refine ⟨24, rfl, by decide, fun d pd wd _ => ?_⟩
        walk_at "d"
        refine fall_count h0 m1 pd wd ?_
        refine ⟨by decide, _, _, rfl, cex 24, (fun z => by cases z), ?_⟩
        walk_at "d"
        refine hS _ (sq_go fun S hS => ?_)
        walk_at "d"
        refine ⟨6, rfl, by decide, fun d pd wd _ => ?_⟩
        walk_at "d"
        refine ⟨9, _, _, _, rfl, .inr (.inr (.inr (.inr (.inr (.inr (.inr ⟨rfl, pd, wd, ?_⟩))))))⟩
        refine ⟨by decide, _, _, rfl, cex 6, (fun z => by cases z), ?_⟩
        walk_at "d"
        refine hS _ (sq_go fun S hS => ?_)
        walk_at "d"
        refine ⟨23, rfl, by decide, by decide, fun t' t0 t1 => ?_⟩
        walk_at "d"
        obtain ⟨t, ht⟩ : ∃ t, 1 + t' = t := ⟨_, rfl⟩
        rw [ht]
        refine hS _ (sq_go fun S hS => ?_)
        walk_at "d"
        refine ⟨1, _, _, _, rfl, .inr (.inl ⟨rfl, rfl, t, rfl, fun z => ?_, fun _ => ?_⟩)⟩
        · rw [whole_yes (by omega) (by omega)] at z; cases z
        refine ⟨by decide, _, _, rfl, exOk_two (by decide +kernel) (exOk_base rfl), ?_⟩
        walk_at "d"
        refine ⟨0, _, _, _, rfl, .inl ⟨rfl, rfl, fun z => ?_, fun _ => ?_⟩⟩
        · rw [whole_yes h0 m1] at z; cases z
        refine ⟨by decide, _, _, rfl, exOk_two (by decide +kernel) (exOk_base rfl), ?_⟩
        walk_at "d"
        refine hS _ ?_
        walk_at "d"
        refine ⟨t, rfl, by omega, fun d pd wd _ => ?_⟩
        walk_at "d"
        refine ⟨1, _, _, _, rfl, .inr (.inl ⟨rfl, pd, t, rfl, fun _ => ?_, fun z => ?_⟩)⟩
        · exact ⟨by decide, _, _, rfl, cex t, (fun z => by cases z), q⟩
        · rw [wd] at z; cases z
      · rintro x es C ρ ⟨w, hes, rfl⟩ hC
        obtain ⟨i, rfl, hi⟩ := hes x List.mem_cons_self
        simp only [dgName, List.set_cons_zero, List.set_cons_succ]
        walk_at "d"
        refine odd_count hi po rfl rfl wo ?_
        refine ⟨by decide, _, _, rfl, cex 24, ?_⟩
        walk_at "d"
        exact hC _ ⟨_, fun y hy => hes y (List.mem_cons_of_mem _ hy), rfl⟩
      · simp at hx
        rcases hx with rfl | rfl | rfl | rfl | rfl
        · exact ⟨0, rfl, .inl rfl⟩
        · exact ⟨5, rfl, .inr (.inl rfl)⟩
        · exact ⟨6, rfl, .inr (.inr (.inl rfl))⟩
        · exact ⟨7, rfl, .inr (.inr (.inr (.inl rfl)))⟩
        · exact ⟨8, rfl, .inr (.inr (.inr (.inr rfl)))⟩
    · rintro x es C ρ ⟨w, hes, rfl⟩ hC
      obtain ⟨i, rfl, hi⟩ := hes x List.mem_cons_self
      simp only [dgName, List.set_cons_zero, List.set_cons_succ]
      refine sq_go fun S2 hS2 => ?_
      walk_at "d"
      refine row_bad_told hi h0 m1 pb fb ?_
      walk_at "d"
      refine ⟨by decide, _, _, rfl, rex k, ?_⟩
      walk_at "d"
      refine row_told hi h0 m1 nd hm rfl fun t ht => ?_
      walk_at "d"
      refine ⟨_, rfl, _, _, rfl, exOk_base ⟨rfl, by decide +kernel⟩, ?_⟩
      walk_at "d"
      refine hS2 _ ?_
      walk_at "d"
      refine ⟨24, rfl, by decide, fun d pd wd _ => ?_⟩
      walk_at "d"
      refine row_count hi pd pb wd ?_
      refine ⟨by decide, _, _, rfl, cex 24, (fun z => by cases z), ?_⟩
      walk_at "d"
      exact hC _ ⟨_, fun y hy => hes y (List.mem_cons_of_mem _ hy), rfl⟩
    · have e : rgD 2 5 = [.int 2, .int 3, .int 4] := rfl
      rw [e] at hx
      simp at hx
      rcases hx with rfl | rfl | rfl
      · exact ⟨2, rfl, .inl rfl⟩
      · exact ⟨3, rfl, .inr (.inl rfl)⟩
      · exact ⟨4, rfl, .inr (.inr rfl)⟩
end
end Z

set_option Elab.async false
set_option linter.all false
set_option maxRecDepth 100000
namespace Z
open PySem L2
local macro_rules | `(tactic| walk_at "side") => `(tactic| first | omega | (unfold CMul; omega) | (unfold CDiv; omega) | (unfold CDivN; omega) | (unfold CPow; omega) | decide)
local macro_rules | `(tactic| walk_at "lst") => `(tactic| first | exact SqL.of (by assumption) | exact SqL.of upd_same | assumption | exact upd_same)
local macro_rules | `(tactic| walk_at "r1") => `(tactic| first | refine ⟨_, rfl, ?_⟩ | refine ⟨_, _, rfl, rfl, ?_⟩ | refine Or.inl ⟨_, rfl, ?_⟩ | refine And.intro rfl ?_ | refine ⟨_, _, _, _, rfl, rfl, by walk_at "lst", rfl, ?_⟩ | refine ⟨_, _, rfl, Or.inl (by walk_at "lst"), ?_⟩ | refine And.intro (by walk_at "side") ?_)
local macro_rules | `(tactic| walk_at "r") => `(tactic| repeat walk_at "r1")
abbrev s_hand : Stmt := top 32
section
variable {P : Program} {w : World} {K : PySem.W.Frag} {mg : Str → Option Value} {base : Heap}
/-! ### the hand -/
theorem sc_hand : FnScope ["script", "total", "k", "cell"] ["script"] (defScope s_hand) := ⟨rfl, rfl, rfl, by decide +kernel, rfl, by decide +kernel, by decide +kernel⟩
theorem ok_hand {f : Addr} {fd : FuncData} (F : Fun K "_law_hand" "_law_hand" s_hand f fd) (T : Bl mg) : FnOk P w K mg base CX0 1 f fd ["script"] (spHand K) := by
  refine F.ok sc_hand (fun vs H Q E h => ?_) (fun cdv A outer s H vs Q E hr h => ?_)
  · obtain ⟨a, ns, rfl, _⟩ := h
    rfl
  · obtain ⟨a, ns, rfl, hs, hl, k⟩ := h
    refine ⟨_,
      (pss_cons (ps_set (i := 1) sc_hand.nd rfl (Or.inl rfl) pe_int)
      (pss_cons (ps_for PassesOwn.never rfl (pi_enum (by rfl) T.n_enumerate (pa_cons (pv 0) pa_nil)) (pg_tup (by rfl) (pgs_cons (pg_name (i := 2) sc_hand.nd rfl (Or.inl rfl)) (pgs_cons (pg_name (i := 3) sc_hand.nd rfl (Or.inl rfl)) pgs_nil)))
        (pss_one (ps_set (i := 1) sc_hand.nd rfl (Or.inl rfl) (pe_op op_mod (pe_callTy call_int1 (by rfl) T.n_int (by decide +kernel) (pa_cons (pe_op op_add (pe_op op_mul (pv 1) pe_int) (pe_op op_mul (pe_callTy call_int1 (by rfl) T.n_int (by decide +kernel) (pa_cons (pv 3) pa_nil)) (pe_op op_add (pv 2) pe_int))) pa_nil)) pe_int))))
      (pss_one (ps_ret (pe_lst (pa_cons (pe_lc (own := [("cell", 3)]) (by rfl) sc_hand.nd (kpi_list K (pv 0)) (blkOk_by (own := [("cell", 3)]) (by show blkC ["script", "total", "k", "cell"] (defScope s_hand) _ _ = true; decide +kernel)) (fun _ _ _ _ _ => (pg_name (i := 3) sc_hand.nd rfl (Or.inl rfl))) (fun _ _ _ _ _ => pts_nil) (fun _ _ _ _ _ => (pe_callB call_abs (by rfl) T.n_abs (by decide +kernel) (pa_cons (pe_callTy call_int1 (by rfl) T.n_int (by decide +kernel) (pa_cons (pv 3) pa_nil)) pa_nil)))) (pa_cons pe_int (pa_cons pe_int (pa_cons (pv 1) pa_nil)))))))))
      , ?_⟩
    have getN : ∀ {i : Nat} {x : V}, (ns.map V.int)[i]? = some x → ∃ z, ns[i]? = some z ∧ x = .int z := fun {i x} e => by
      rw [List.getElem?_map] at e
      cases q : ns[i]? with
      | none =>
        rw [q] at e
        cases e
      | some z =>
        rw [q] at e
        exact ⟨z, rfl, (Option.some.inj e).symm⟩
    walk_at "r"
    refine ⟨a, _, rfl, hs, for_it (walk_enum (K := K) (a := a) (xs := ns.map V.int)) (fun i σ H' => ∃ (t : Int) (v w : Option V), σ = [some (.ref a), some (.int t), v, w] ∧ Same H H' ∧ 0 ≤ t ∧ t < 2147483549)
      ⟨0, none, none, rfl, Same.refl _, by omega, by omega⟩ (fun i σ H' _ q => by
        obtain ⟨t, v, w, _, s1, _⟩ := q
        exact s1.seq hs) ?_ ?_⟩
    · rintro i v σ H1 H2 hi ⟨t, v1, w1, rfl, s1, t0, t1⟩ y
      obtain ⟨T', x, y, rfl, hT, rfl, ex, ey⟩ := y
      cases ex
      obtain ⟨z, hz, rfl⟩ := getN ey
      have hi63 : i < 63 := by
        have := (List.getElem?_eq_some_iff.mp hz).1
        omega
      refine ⟨T', _, rfl, SqT.of upd_same, rfl, _, _, rfl, _, _, rfl, rfl, ?_⟩
      walk_at "r"
      exact ⟨_, _, _, rfl, s1.trans (same_new hT), Int.emod_nonneg _ (by omega), Int.emod_lt_of_pos _ (by omega)⟩
    · rintro σ H' ⟨t, v, w, rfl, s1, t0, t1⟩
      walk_at "r"
      refine ⟨⟨_, s1.seq hs⟩, fun D hD => lc_list (K := K) (a := a) (xs := ns.map V.int) (fun j H2 => ∃ cs : List Int, Same H' H2 ∧ H2 D = some (.lst (cs.map V.int)) ∧ cs.length = j ∧ ∀ c ∈ cs, 0 ≤ c) ⟨[], same_new hD, upd_same, rfl, fun _ h => nomatch h⟩ (fun j H2 _ q => by
        obtain ⟨cs, s2, _⟩ := q
        exact s2.seq (s1.seq hs)) ?_ ?_⟩
      · rintro j x H2 hx ⟨cs, s2, e2, el, hc⟩
        obtain ⟨z, hz, rfl⟩ := getN hx
        have hj : j < 63 := by
          have := (List.getElem?_eq_some_iff.mp hz).1
          omega
        refine ⟨rfl, ?_⟩
        refine ⟨_, rfl, .inl ⟨_, rfl, ?_⟩⟩
        refine ⟨_, rfl, _, e2, small1000 (by rw [List.length_map]; omega), cs ++ [if z < 0 then -z else z], same_mut s2 hD, ?_, ?_, ?_⟩
        · rw [upd_same, List.map_append]
          rfl
        · rw [List.length_append, el]
          rfl
        · intro c hc'
          rcases List.mem_append.mp hc' with h | h
          · exact hc c h
          · have e : c = if z < 0 then -z else z := by simpa using h
            rw [e]
            split <;> omega
      · rintro H2 ⟨cs, s2, e2, el, hc⟩
        have hD' : H D = none := s1.free hD
        walk_at "r"
        refine ⟨by show 4 ≤ sizeLine; decide, fun p hp => ?_⟩
        have hp' : H p = none := (s1.trans s2).free hp
        have ne : D ≠ p := ne_of_none e2 hp
        refine k p D _ ((s1.trans s2).trans (same_new hp)) ⟨cs, 0, 0, t, upd_same, by rw [upd_ne ne]; exact e2, ne, by rw [List.length_map] at el; omega, hc, by omega, by omega, t0, t1⟩ hp' hD'
end
end Z

set_option Elab.async false
set_option linter.all false
set_option maxRecDepth 100000
namespace Z
open PySem L2
local macro_rules | `(tactic| walk_at "d") => `(tactic| simp only [dSq, dIf, dOr, dAnd, dNot, dTT, dTB, dUn, dBin, dVar, dC, dRet, dNext, dOrV, dAndV, dNotT, dIfE, isiD, OV.isOwn, startD, List.map_cons, List.map_nil, List.cons_append, List.nil_append, List.append_nil, List.length_cons, List.length_nil, List.replicate, Nat.reduceAdd, Nat.reduceSub, Nat.sub_self, Nat.add_sub_cancel,
  List.getElem?_cons_zero, List.getElem?_cons_succ, bOk, iv_d, iv_n, iv_v, nr_d, nr_n, List.any_cons, List.any_nil, Bool.or_false, Bool.or_true, Bool.false_eq_true, Bool.not_true, Bool.not_false, false_implies, true_and, and_true, if_true, if_false, ite_true, ite_false, forall_const, reduceIte, reduceCtorEq,
  d0_1, dI_1, ad_i, ad_t, ad_l, ng_1, dCa, dCall0, dCons, dNil, dTup, dLst, dEq, dSeq, dRange, dEnum, dRg1, dRg2, dListRg, dTupRg, dSl, dONone, dOSome, dCall, mv_d, mv_n, mv_v, nn_n, nn_b, nn_i, nn_s, nn_l, nn_t, nn_x, nn_d, dSetF, dSetO, dDrop, dFor, dgName, dgTup, dgCons, dgNil, dRetN, dYes, it_1, pm_1, nmR, dXf, dIsE, sq_l, sq_t, sq_x, tr_n, tr_b, tr_i, tr_l, tr_t, tr_x, tr_d, vl_d, vl_n, vl_v, fr_d, fr_o, fr_k, sl_l, sl_t, sl_x, le_1, li_1, tu_1, tu_l, tu_t, tu_x, tx_1, tx_l, tx_t, tx_x, rr_d, rr_n, rr_v, in_1, ix_1, dt_1, isB_1, dCallT, dIdx, dRaise, dAsg, dDnew, List.set_cons_zero, List.set_cons_succ, noOwnAt, List.all_cons, List.all_nil, wipeE, lent, hasOwn, Option.map_some, Option.map_none, dLc, lt_n, pl_n, tyB_n, tyI_n, tyS_n, tyL_n, tyT_n, lt_b, pl_b, tyB_b, tyI_b, tyS_b, tyL_b, tyT_b, lt_i, pl_i, tyB_i, tyI_i, tyS_i, tyL_i, tyT_i, lt_s, pl_s, tyB_s, tyI_s, tyS_s, tyL_s, tyT_s, lt_l, pl_l, tyB_l, tyI_l, tyS_l, tyL_l, tyT_l, lt_t, pl_t, tyB_t, tyI_t, tyS_t, tyL_t, tyT_t, lt_x, pl_x, tyB_x, tyI_x, tyS_x, tyL_x, tyT_x, lt_d, pl_d, tyB_d, tyI_d, tyS_d, tyL_d, tyT_d, noL, noLA, Bool.and_true, Bool.true_and])
local macro_rules | `(tactic| walk_at "e") => `(tactic| first | exact ⟨_, rfl, rfl⟩ | rfl)
abbrev s_law : Stmt := top 41
section
variable {P : Program} {w : World} {K : PySem.W.Frag} {mg : Str → Option Value} {base : Heap}
theorem sc_law : FnScope ["script", "hand", "turn"] ["script"] (defScope s_law) := ⟨rfl, rfl, rfl, by decide +kernel, rfl, by decide +kernel, by decide +kernel⟩
/-- the law's body, once the hand is made -/
theorem law_body {f : Addr} (T : Bl mg) (g24 : ∃ t, mg "MOST_FRAMES" = some (.int 24 t)) (c_law_hand : Cal P w K mg base CX0 "_law_hand" 1 (spHand K)) (c_law_exact : Cal P w K mg base CX0 "_law_exact" 4 (spD K (wExact 4))) (c_law_draw : Cal P w K mg base CX0 "_law_draw" 2 (spD K wDraw)) (c_law_listed : Cal P w K mg base CX0 "_law_listed" 9 (spD K wListed)) (c_law_classes : Cal P w K mg base CX0 "_law_classes" 6 (spD K wTrue0))
    (c_law_great : Cal P w K mg base CX0 "_law_great" 10 (spD K wTrue1)) (c_law_refused : Cal P w K mg base CX0 "_law_refused" 10 (spD K wTrue1))
    (cdv : Value) (s : Shared) (H : Hp) (vs : List V) (Q : VK) (E : XK) (hr : Room 10 (callerA.deeper (PyProof.Rows.envOfC "law" (defScope s_law) s.heap.objs.size f cdv))) (h : spLaw K vs H Q E) :
    ∃ t, PSs (cxOf CX0 P w K mg base ["script", "hand", "turn"] "law" (defScope s_law) f cdv callerA [] s H E).nox (defBody s_law) t ∧ t { nx := fun _ H' => Q .non H', rt := Q } (L2.start ["script", "hand", "turn"] vs) H := by
  obtain ⟨t24, g24⟩ := g24
  obtain ⟨a, ns, rfl, sq, hl, k⟩ := h
  refine law_go (n := 1) (ps_set (i := 1) sc_law.nd rfl (Or.inl rfl) (pe_cal c_law_hand (hr.mono (by decide)) (by rfl) (pa_cons (pv 0) pa_nil))) (fun md F0 H0 a0 =>
      (dss_cons (ds_if (DWs.ts (dw_or (dt_not (dt_truth K (de_call c_law_exact (hr.mono (by decide)) (by rfl) (da_cons (de_cst (pe_glob (v := .int 24) (by rfl) g24 ⟨_, rfl⟩) fun _ => .int _) (da_cons de_int da_nil))))) (dw_or (dt_not (dt_truth K (de_call c_law_listed (hr.mono (by decide)) (by rfl) (da_cons (de_call c_law_draw (hr.mono (by decide)) (by rfl) (da_cons (de_var (pv 1)) (da_cons de_int da_nil))) da_nil)))) (dw_or1 (dt_not (dt_truth K (de_call0 c_law_classes (hr.mono (by decide)) (by rfl))))))))
        (dss_one (ds_ret de_bl))
        dss_nil)
      (dss_cons (ds_for PassesOwn.never rfl (di_range1 (by rfl) T.n_range de_int) (dg_name (i := 2) sc_law.nd rfl (Or.inl rfl))
        (dss_one (ds_if (DWs.ts (dw_or (dt_not (dt_truth K (de_call c_law_great (hr.mono (by decide)) (by rfl) (da_cons (de_var (pv 1)) da_nil)))) (dw_or1 (dt_not (dt_truth K (de_call c_law_refused (hr.mono (by decide)) (by rfl) (da_cons (de_var (pv 1)) da_nil)))))))
          (dss_one (ds_ret de_bl))
          dss_nil)))
      (dss_one (ds_ret de_bl))))
      ) (fun DE0 hD => ?_) sq hl k
  unfold List.replicate
  walk_at "d"
  refine ⟨_, _, rfl, exOk_base rfl, ?_⟩
  walk_at "d"
  refine ⟨6, rfl, by decide, by decide, fun d d0 d1 => ?_⟩
  walk_at "d"
  refine ⟨d, rfl, d0, by omega, ?_⟩
  walk_at "d"
  refine ⟨rfl, ?_⟩
  walk_at "d"
  refine ⟨by unfold R62; decide, by unfold R62; decide, dFor_ind (fun es ρ => ∃ o : Option OV, ρ = [none, some (OV.dat .hnd), o]) ?_ ?_ _ _ ⟨_, rfl⟩⟩
  · rintro ρ ⟨o, rfl⟩
    exact hD
  · rintro x es C ρ ⟨o, rfl⟩ hC
    walk_at "d"
    refine ⟨rfl, ?_⟩
    walk_at "d"
    refine ⟨rfl, ?_⟩
    walk_at "d"
    exact hC _ ⟨_, rfl⟩
end
end Z

set_option Elab.async false
set_option linter.all false
set_option maxRecDepth 100000
set_option maxHeartbeats 2100000
namespace Z
open PySem L2
open PySem.Spec PyProof.Rows
/-! ### what the top has written -/
theorem fun_of {K : PySem.W.Frag} {x q : Str} {st : Stmt} {f : Addr} {fd : FuncData} (F : FunD K x q (defArgs st) (defBody st) (defScope st) [] [] f fd) : Fun K x q st f fd := by
  obtain ⟨oc, od, dV, kV, doc, pm, an, cdv, ct, osl, e, lk, hcd, hD, hK⟩ := F.ex
  rcases hD with ⟨_, rfl⟩ | ⟨z, _⟩
  · exact ⟨⟨oc, od, kV, doc, pm, an, cdv, ct, osl, e, lk, hcd⟩, F.kp⟩
  · exact absurd rfl z
/-- the class at C: an exception's, of ValueError's line -/
def exB1 (K : PySem.W.Frag) (C : Addr) : Bool :=
  match K.lookup C with
  | some ⟨.type "type", _, .cls cd, sl⟩ =>
    (match cd.mro, sl.toList with
    | .ref D :: bm, [_, _, _, _, some (.builtin n), _] => (D == C) && ((n == "ValueError.__new__") && (!cd.hasDel && (cd.hasDict && PySem.HandSPX.refsVE bm)))
    | _, _ => false)
  | _ => false
theorem exB1_ok {K : PySem.W.Frag} {C : Addr} (h : exB1 K C = true) : ∃ nm q N bs bm sn sub ab col dd k0 k1 k2 k3 k5, K.lookup C = some (excClassObj nm q C N bs bm true sn sub ab col dd k0 k1 k2 k3 k5 "ValueError.__new__") ∧ PySem.HandSPX.refsVE bm = true := by
  unfold exB1 at h
  split at h
  · rename_i dd cd sl ho
    split at h
    · rename_i D bm k0 k1 k2 k3 n k5 hm hs
      simp only [Bool.and_eq_true, beq_iff_eq, Bool.not_eq_true'] at h
      obtain ⟨rfl, rfl, h1, h2, h3⟩ := h
      obtain ⟨nm, bs, mro, ns, qn, hd, sn, sub, ab, col, del⟩ := cd
      dsimp only at hm h1 h2
      subst hm h1 h2
      have e : sl = #[k0, k1, k2, k3, some (.builtin "ValueError.__new__"), k5] := by
        obtain ⟨l⟩ := sl
        simp only at hs
        rw [hs]
      subst e
      exact ⟨nm, qn, ns, bs, bm, sn, sub, ab, col, dd, k0, k1, k2, k3, k5, ho, h3⟩
    · cases h
  · cases h
open He in
/-- of the errors' classes -/
def exL (K : PySem.W.Frag) (A0 A1 A2 A3 I0 I1 : Addr) : List Bool :=
  [exB1 K A1,
   eqO (PySem.W.findIn K (.ref A1) "__setattr__") (some (some (.builtin "object.__setattr__"))),
   decide (PySem.W.subIn K (.ref A1) (.type "BaseException") = some true),
   decide (PySem.W.typeIn K (.ref A1) = some (.type "type")),
   PySem.W.keepIn K (.ref A1),
   xfB K A1,
   decide (PySem.W.typeIn K (.ref I0) = some (.type "function")),
   exB1 K A2,
   eqO (PySem.W.findIn K (.ref A2) "__setattr__") (some (some (.builtin "object.__setattr__"))),
   decide (PySem.W.subIn K (.ref A2) (.type "BaseException") = some true),
   decide (PySem.W.typeIn K (.ref A2) = some (.type "type")),
   PySem.W.keepIn K (.ref A2),
   xfB K A2,
   decide (PySem.W.typeIn K (.ref I1) = some (.type "function")),
   (PySem.W.clsIn K A2).isSome,
   eqO (PySem.W.findIn K (.ref A2) "__class__") (some (some (.builtin "object.__class__"))),
   decide (PySem.W.mroIn K A2 (.type "object") = some true),
   eqO (PySem.W.specialIn K (.builtin "object.__class__") "__get__") (some (some (.builtin "getset_descriptor.__get__"))),
   decide (PySem.W.takesIn K (.builtin "object.__class__") = some true),
   decide (PySem.W.exmOne K (.ref A1) (.ref A1) = some true),
   decide (PySem.W.exmOne K (.ref A2) (.ref A1) = some false),
   decide (PySem.W.exmOne K (.ref A2) (.ref A2) = some true),
   decide (PySem.W.exmOne K (.ref A3) (.ref A1) = some false),
   decide (PySem.W.exmOne K (.ref A3) (.ref A2) = some false),
   decide (PySem.W.exmOne K (.ref A3) (.ref A3) = some true),
   decide (PySem.W.exmOne K (.ref A2) (.ref A0) = some true),
   decide (PySem.W.kitOne K (.ref A2) (.ref A2) = some true),
   decide (PySem.W.kitOne K (.ref A2) (.ref A3) = some false),
   decide (PySem.W.kitOne K (.ref A2) (.ref A1) = some false),
   decide (PySem.W.kitOne K (.ref A2) (.type "ValueError") = some true),
   decide (PySem.W.subIn K (.ref A1) (.type "StopIteration") = some false),
   eqO (PySem.W.nsIn K mainGlobals "perm") (some (some (.builtin "math.perm")))]
open He in
def exK (K : PySem.W.Frag) : Bool := (exL K (ga K "FrameError") (ga K "BadCount") (ga K "BadRow") (ga K "BadPlace") (ma K (ga K "BadCount") "__init__") (ma K (ga K "BadRow") "__init__")).all id
theorem all_at {l : List Bool} (h : l.all id = true) (i : Nat) {b : Bool} (e : l[i]? = some b) : b = true := List.all_eq_true.mp h b (List.mem_of_getElem? e)
/-! ### the Hook: facts by names and one Bool more -/
abbrev AlY : Type := He.AlD × Bool
structure SaysY (fa : List He.Fa) (fn : List He.DefD) (ex : PySem.W.Frag → Bool) (K : PySem.W.Frag) : Prop where
  d : He.SaysD fa fn K
  more : ex K = true
def obsY (n : Nat) (fa : List He.Fa) (fn : List He.DefD) (ex : PySem.W.Frag → Bool) (g : Addr → Option Obj) : AlY := (He.obsD fa fn (He.frG g (He.asD g n)), ex (He.frG g (He.asD g n)))
def hookY (n : Nat) (fa : List He.Fa) (fn : List He.DefD) (ex : PySem.W.Frag → Bool) : PySem.W.Hook where
  α := AlY
  obs := fun s => obsY n fa fn ex s.heap.get?
  val := fun _ => (He.valD fn, true)
  says := fun _ h => ∃ K : PySem.W.Frag, K.In h ∧ SaysY fa fn ex K
  of := fun _ _ e => ⟨_, He.frG_in, ⟨congrArg (fun z : AlY => z.1) e, congrArg (fun z : AlY => z.2) e⟩⟩
  keeps := fun _ _ _ ⟨K, hK, c⟩ k => ⟨K, PySem.W.Frag.In.keeps hK k, c⟩
theorem obsY_eq {n : Nat} {fa : List He.Fa} {fn : List He.DefD} {ex : PySem.W.Frag → Bool} {g : Addr → Option Obj} {s : Shared} (h : ∀ a, g a = s.heap.get? a) : obsY n fa fn ex g = (hookY n fa fn ex).obs s := by
  have e : g = s.heap.get? := funext h
  rw [e] <;> rfl
theorem run_walkE {l : PySem.W.OpenLaw} {n : Nat} {q : Program} {loose : List Str} {XP : (Str → Option Value) → Heap → Prop} {YP : World → Heap → Prop} {d : DefRec} {x : Str}
    (most : l.most = some n) (small : n ≤ sizeLine) (plain : d.params.defaults = [])
    (F : ∀ (w : World) (mg : Str → Option Value) (fa : Addr) (h : Heap), YP w h → h.Ns mainGlobals mg → mg d.name = some (.ref fa) →
      ∃ (K : PySem.W.Frag) (fd : FuncData) (sp : Sp), K.In h ∧ (∀ (s : Shared) (v : Value), BindsTo s fd ⟨[v], []⟩ [(x, v)]) ∧
        (∀ (H : Hp) (a : Addr) (zs : List Int), zs.length ≤ n → Only H → SqL K H a (zs.map V.int) → sp [.ref a] H (fun v _ => v = .bl true) fun _ _ _ => False) ∧
        ∀ base : Heap, K.In base → base.Ns mainGlobals mg → RunAt l.prog w K mg base fa fd [x] sp) :
    PySem.W.WalkO q loose XP YP l.row.toRowW d [] (fun f vs => PySem.call f vs) := by
  refine Att.attach_call most plain fun w _ st mg mb fa o pm cd doc a us zs G Y _ _ _ named here intsA short nogen => ?_
  obtain ⟨K, fd, sp, KX, binds, want, runs⟩ := F w mg fa _ Y G.T.g named
  exact run_call KX G.T.g G.T.b G.T.builtins G.T.nolimit nogen here intsA (Nat.le_trans short small) runs binds fun H only sq => want H a zs short only sq
end Z

set_option Elab.async false
set_option linter.all false
set_option maxRecDepth 100000
set_option maxHeartbeats 2100000
namespace Z
open PySem L2
open PySem.Spec PyProof.Rows
def fnL : List He.DefD := [
  ⟨("is_whole", none), "is_whole", "is_whole", defArgs (top 7), defBody (top 7), defScope (top 7), [.non, .non], []⟩,
  ⟨("is_sequence", none), "is_sequence", "is_sequence", defArgs (top 8), defBody (top 8), defScope (top 8), [], []⟩,
  ⟨("check_count", none), "check_count", "check_count", defArgs (top 12), defBody (top 12), defScope (top 12), [.int 24], []⟩,
  ⟨("_fault_among", none), "_fault_among", "_fault_among", defArgs (top 13), defBody (top 13), defScope (top 13), [], []⟩,
  ⟨("row_fault", none), "row_fault", "row_fault", defArgs (top 14), defBody (top 14), defScope (top 14), [], []⟩,
  ⟨("check_row", none), "check_row", "check_row", defArgs (top 15), defBody (top 15), defScope (top 15), [], []⟩,
  ⟨("count_falling", none), "count_falling", "count_falling", defArgs (top 16), defBody (top 16), defScope (top 16), [], []⟩,
  ⟨("count_all_rows", none), "count_all_rows", "count_all_rows", defArgs (top 17), defBody (top 17), defScope (top 17), [], []⟩,
  ⟨("row_place", none), "row_place", "row_place", defArgs (top 18), defBody (top 18), defScope (top 18), [], []⟩,
  ⟨("row_at", none), "row_at", "row_at", defArgs (top 19), defBody (top 19), defScope (top 19), [], []⟩,
  ⟨("row_number", none), "row_number", "row_number", defArgs (top 20), defBody (top 20), defScope (top 20), [], []⟩,
  ⟨("row_numbered", none), "row_numbered", "row_numbered", defArgs (top 21), defBody (top 21), defScope (top 21), [], []⟩,
  ⟨("all_rows", none), "all_rows", "all_rows", defArgs (top 22), defBody (top 22), defScope (top 22), [], []⟩,
  ⟨("_law_falling", none), "_law_falling", "_law_falling", defArgs (top 24), defBody (top 24), defScope (top 24), [], []⟩,
  ⟨("_law_rows_of", none), "_law_rows_of", "_law_rows_of", defArgs (top 25), defBody (top 25), defScope (top 25), [], []⟩,
  ⟨("_law_exact", none), "_law_exact", "_law_exact", defArgs (top 26), defBody (top 26), defScope (top 26), [], []⟩,
  ⟨("_law_mix", none), "_law_mix", "_law_mix", defArgs (top 27), defBody (top 27), defScope (top 27), [], []⟩,
  ⟨("_law_draw", none), "_law_draw", "_law_draw", defArgs (top 28), defBody (top 28), defScope (top 28), [], []⟩,
  ⟨("_law_some_row", none), "_law_some_row", "_law_some_row", defArgs (top 29), defBody (top 29), defScope (top 29), [], []⟩,
  ⟨("_law_seq", none), "_law_seq", "_law_seq", defArgs (top 30), defBody (top 30), defScope (top 30), [], []⟩,
  ⟨("_law_no_count", none), "_law_no_count", "_law_no_count", defArgs (top 31), defBody (top 31), defScope (top 31), [], []⟩,
  ⟨("_law_hand", none), "_law_hand", "_law_hand", defArgs (top 32), defBody (top 32), defScope (top 32), [], []⟩,
  ⟨("_law_asked", none), "_law_asked", "_law_asked", defArgs (top 33), defBody (top 33), defScope (top 33), [], []⟩,
  ⟨("_law_of_row", none), "_law_of_row", "_law_of_row", defArgs (top 34), defBody (top 34), defScope (top 34), [], []⟩,
  ⟨("_law_own_place", none), "_law_own_place", "_law_own_place", defArgs (top 35), defBody (top 35), defScope (top 35), [], []⟩,
  ⟨("_law_listed", none), "_law_listed", "_law_listed", defArgs (top 36), defBody (top 36), defScope (top 36), [], []⟩,
  ⟨("_law_great", none), "_law_great", "_law_great", defArgs (top 37), defBody (top 37), defScope (top 37), [], []⟩,
  ⟨("_law_spoilt_row", none), "_law_spoilt_row", "_law_spoilt_row", defArgs (top 38), defBody (top 38), defScope (top 38), [], []⟩,
  ⟨("_law_refused", none), "_law_refused", "_law_refused", defArgs (top 39), defBody (top 39), defScope (top 39), [], []⟩,
  ⟨("_law_classes", none), "_law_classes", "_law_classes", defArgs (top 40), defBody (top 40), defScope (top 40), [], []⟩,
  ⟨("law", none), "law", "law", defArgs (top 41), defBody (top 41), defScope (top 41), [], []⟩,
  ⟨("BadCount", some "__init__"), "__init__", "BadCount.__init__", defArgs s_bc, defBody s_bc, defScope s_bc, [], []⟩,
  ⟨("BadRow", some "__init__"), "__init__", "BadRow.__init__", defArgs s_br, defBody s_br, defScope s_br, [], []⟩]
def faL : List He.Fa := [.glo "is_whole", .glo "is_sequence", .glo "check_count", .glo "_fault_among", .glo "row_fault", .glo "check_row", .glo "count_falling", .glo "count_all_rows", .glo "row_place", .glo "row_at", .glo "row_number", .glo "row_numbered", .glo "all_rows", .glo "_law_falling", .glo "_law_rows_of", .glo "_law_exact", .glo "_law_mix", .glo "_law_draw", .glo "_law_some_row", .glo "_law_seq", .glo "_law_no_count", .glo "_law_hand", .glo "_law_asked", .glo "_law_of_row", .glo "_law_own_place", .glo "_law_listed", .glo "_law_great", .glo "_law_spoilt_row", .glo "_law_refused", .glo "_law_classes", .glo "law", .glo "FrameError", .glo "BadCount", .glo "BadRow", .glo "BadPlace", .free "len", .free "int", .free "abs", .free "range", .free "enumerate", .free "list", .free "tuple", .free "isinstance", .free "bool", .free "str", .free "any", .free "repr", .free "sum", .free "ValueError", .int "MOST_FRAMES" 24, .int "MOST_LISTED" 6, .noat "BadCount" "most", .meth "BadCount" "__init__", .noat "BadRow" "at", .meth "BadRow" "__init__", .exc "BadPlace"]
theorem cal_of {P : Program} {w : World} {K : PySem.W.Frag} {mg : Str → Option Value} {base : Heap} {CX : CXT} {x q : Str} {st : Stmt} {f : Addr} {fd : FuncData} {ps : List Str} {k : Nat} {sp : Sp} (F : Fun K x q st f fd) (g : mg x = some (.ref f)) (b : Binds K fd ps []) (ok : FnOk P w K mg base CX k f fd ps sp) : Cal P w K mg base CX x k sp := ⟨⟨f, fd, ps, g, F.kp, b, ok⟩⟩
theorem calg_of {P : Program} {w : World} {K : PySem.W.Frag} {mg : Str → Option Value} {base : Heap} {x q : Str} {st : Stmt} {f : Addr} {fd : FuncData} {ps : List Str} {k : Nat} {sp : SpG} (F : Fun K x q st f fd) (g : mg x = some (.ref f)) (b : Binds K fd ps []) (ok : GFn P w K mg base k f fd ps sp) : CalG P w K mg base x k sp := ⟨⟨f, fd, ps, g, F.kp, b, ok⟩⟩
theorem len3 {α : Type} {l : List α} (h : l.length = 3) : ∃ a b c, l = [a, b, c] := by
  match l, h with
  | [a, b, c], _ => exact ⟨a, b, c, rfl⟩
theorem len2 {α : Type} {l : List α} (h : l.length = 2) : ∃ a b, l = [a, b] := by
  match l, h with
  | [a, b], _ => exact ⟨a, b, rfl⟩
theorem len1 {α : Type} {l : List α} (h : l.length = 1) : ∃ a, l = [a] := by
  match l, h with
  | [a], _ => exact ⟨a, rfl⟩
theorem len0 {α : Type} {l : List α} (h : l.length = 0) : l = [] := List.length_eq_zero_iff.mp h
theorem bw_is_whole_3 {K : PySem.W.Frag} {f : Addr} {fd : FuncData} (F : FunD K "is_whole" "is_whole" (defArgs (top 7)) (defBody (top 7)) (defScope (top 7)) [.non, .non] [] f fd) : ∃ ds, Vals [] ds ∧ Binds K fd ["thing", "low", "high"] ds :=
  F.binds1 (ps := ["thing", "low", "high"]) 3 2 (by simp) rfl fun T kV doc pm an cdv ct us its h1 h2 => by
    obtain ⟨a0, a1, a2, rfl⟩ := len3 h1
    obtain ⟨x0, x1, rfl⟩ := len2 h2
    exact ⟨_, rfl, rfl⟩
theorem bw_is_whole_1 {K : PySem.W.Frag} {f : Addr} {fd : FuncData} (F : FunD K "is_whole" "is_whole" (defArgs (top 7)) (defBody (top 7)) (defScope (top 7)) [.non, .non] [] f fd) : ∃ ds, Vals [.non, .non] ds ∧ Binds K fd ["thing", "low", "high"] ds :=
  F.binds1 (ps := ["thing", "low", "high"]) 1 0 (by simp) rfl fun T kV doc pm an cdv ct us its h1 h2 => by
    obtain ⟨a0, rfl⟩ := len1 h1
    obtain ⟨x0, x1, rfl⟩ := len2 h2
    exact ⟨_, rfl, rfl⟩
theorem bw_check_count_1 {K : PySem.W.Frag} {f : Addr} {fd : FuncData} (F : FunD K "check_count" "check_count" (defArgs (top 12)) (defBody (top 12)) (defScope (top 12)) [.int 24] [] f fd) : ∃ ds, Vals [.int 24] ds ∧ Binds K fd ["m", "most"] ds :=
  F.binds1 (ps := ["m", "most"]) 1 0 (by simp) rfl fun T kV doc pm an cdv ct us its h1 h2 => by
    obtain ⟨a0, rfl⟩ := len1 h1
    obtain ⟨x0, rfl⟩ := len1 h2
    exact ⟨_, rfl, rfl⟩
theorem bw_check_count_2 {K : PySem.W.Frag} {f : Addr} {fd : FuncData} (F : FunD K "check_count" "check_count" (defArgs (top 12)) (defBody (top 12)) (defScope (top 12)) [.int 24] [] f fd) : ∃ ds, Vals [] ds ∧ Binds K fd ["m", "most"] ds :=
  F.binds1 (ps := ["m", "most"]) 2 1 (by simp) rfl fun T kV doc pm an cdv ct us its h1 h2 => by
    obtain ⟨a0, a1, rfl⟩ := len2 h1
    obtain ⟨x0, rfl⟩ := len1 h2
    exact ⟨_, rfl, rfl⟩
theorem facts {P : Program} {w : World} {K : PySem.W.Frag} {h : Heap} {mg : Str → Option Value} {f : Addr} (X : K.In h) (G : h.Ns mainGlobals mg) (hfa : mg ("law" : Str) = some (.ref f)) (c : SaysY faL fnL exK K) :
    ∃ fd : FuncData, (∀ (s : Shared) (v : Value), BindsTo s fd ⟨[v], []⟩ [("script", v)]) ∧ ∀ base : Heap, K.In base → base.Ns mainGlobals mg → RunAt P w K mg base f fd ["script"] (spLaw K) := by
  have gl : ∀ (i : Nat) (x : Str), faL[i]? = some (.glo x) → mg x = some (.ref (He.ga K x)) := fun i x e => He.glo_ok X G (c.d.fact i (f := .glo x) e)
  have fr : ∀ (i : Nat) (x : Str), faL[i]? = some (.free x) → mg x = none := fun i x e => He.free_ok X G (c.d.fact i (f := .free x) e)
  obtain ⟨fd_is_whole, D_is_whole⟩ := c.d.def_ 0 rfl
  have g_is_whole := gl 0 "is_whole" rfl
  obtain ⟨fd_is_sequence, D_is_sequence⟩ := c.d.def_ 1 rfl
  have g_is_sequence := gl 1 "is_sequence" rfl
  have F_is_sequence := fun_of (x := "is_sequence") (q := "is_sequence") (st := (top 8)) D_is_sequence
  have b_is_sequence := F_is_sequence.binds (ps := ["thing"]) fun _ _ _ _ _ _ us hl => match us, hl with | [_], _ => rfl
  obtain ⟨fd_check_count, D_check_count⟩ := c.d.def_ 2 rfl
  have g_check_count := gl 2 "check_count" rfl
  obtain ⟨fd__fault_among, D__fault_among⟩ := c.d.def_ 3 rfl
  have g__fault_among := gl 3 "_fault_among" rfl
  have F__fault_among := fun_of (x := "_fault_among") (q := "_fault_among") (st := (top 13)) D__fault_among
  have b__fault_among := F__fault_among.binds (ps := ["let", "row"]) fun _ _ _ _ _ _ us hl => match us, hl with | [_, _], _ => rfl
  obtain ⟨fd_row_fault, D_row_fault⟩ := c.d.def_ 4 rfl
  have g_row_fault := gl 4 "row_fault" rfl
  have F_row_fault := fun_of (x := "row_fault") (q := "row_fault") (st := (top 14)) D_row_fault
  have b_row_fault := F_row_fault.binds (ps := ["m", "row"]) fun _ _ _ _ _ _ us hl => match us, hl with | [_, _], _ => rfl
  obtain ⟨fd_check_row, D_check_row⟩ := c.d.def_ 5 rfl
  have g_check_row := gl 5 "check_row" rfl
  have F_check_row := fun_of (x := "check_row") (q := "check_row") (st := (top 15)) D_check_row
  have b_check_row := F_check_row.binds (ps := ["m", "row"]) fun _ _ _ _ _ _ us hl => match us, hl with | [_, _], _ => rfl
  obtain ⟨fd_count_falling, D_count_falling⟩ := c.d.def_ 6 rfl
  have g_count_falling := gl 6 "count_falling" rfl
  have F_count_falling := fun_of (x := "count_falling") (q := "count_falling") (st := (top 16)) D_count_falling
  have b_count_falling := F_count_falling.binds (ps := ["m", "d"]) fun _ _ _ _ _ _ us hl => match us, hl with | [_, _], _ => rfl
  obtain ⟨fd_count_all_rows, D_count_all_rows⟩ := c.d.def_ 7 rfl
  have g_count_all_rows := gl 7 "count_all_rows" rfl
  have F_count_all_rows := fun_of (x := "count_all_rows") (q := "count_all_rows") (st := (top 17)) D_count_all_rows
  have b_count_all_rows := F_count_all_rows.binds (ps := ["m"]) fun _ _ _ _ _ _ us hl => match us, hl with | [_], _ => rfl
  obtain ⟨fd_row_place, D_row_place⟩ := c.d.def_ 8 rfl
  have g_row_place := gl 8 "row_place" rfl
  have F_row_place := fun_of (x := "row_place") (q := "row_place") (st := (top 18)) D_row_place
  have b_row_place := F_row_place.binds (ps := ["m", "row"]) fun _ _ _ _ _ _ us hl => match us, hl with | [_, _], _ => rfl
  obtain ⟨fd_row_at, D_row_at⟩ := c.d.def_ 9 rfl
  have g_row_at := gl 9 "row_at" rfl
  have F_row_at := fun_of (x := "row_at") (q := "row_at") (st := (top 19)) D_row_at
  have b_row_at := F_row_at.binds (ps := ["m", "d", "place"]) fun _ _ _ _ _ _ us hl => match us, hl with | [_, _, _], _ => rfl
  obtain ⟨fd_row_number, D_row_number⟩ := c.d.def_ 10 rfl
  have g_row_number := gl 10 "row_number" rfl
  have F_row_number := fun_of (x := "row_number") (q := "row_number") (st := (top 20)) D_row_number
  have b_row_number := F_row_number.binds (ps := ["m", "row"]) fun _ _ _ _ _ _ us hl => match us, hl with | [_, _], _ => rfl
  obtain ⟨fd_row_numbered, D_row_numbered⟩ := c.d.def_ 11 rfl
  have g_row_numbered := gl 11 "row_numbered" rfl
  have F_row_numbered := fun_of (x := "row_numbered") (q := "row_numbered") (st := (top 21)) D_row_numbered
  have b_row_numbered := F_row_numbered.binds (ps := ["m", "number"]) fun _ _ _ _ _ _ us hl => match us, hl with | [_, _], _ => rfl
  obtain ⟨fd_all_rows, D_all_rows⟩ := c.d.def_ 12 rfl
  have g_all_rows := gl 12 "all_rows" rfl
  have F_all_rows := fun_of (x := "all_rows") (q := "all_rows") (st := (top 22)) D_all_rows
  have b_all_rows := F_all_rows.binds (ps := ["m"]) fun _ _ _ _ _ _ us hl => match us, hl with | [_], _ => rfl
  obtain ⟨fd__law_falling, D__law_falling⟩ := c.d.def_ 13 rfl
  have g__law_falling := gl 13 "_law_falling" rfl
  have F__law_falling := fun_of (x := "_law_falling") (q := "_law_falling") (st := (top 24)) D__law_falling
  have b__law_falling := F__law_falling.binds (ps := ["m", "d"]) fun _ _ _ _ _ _ us hl => match us, hl with | [_, _], _ => rfl
  obtain ⟨fd__law_rows_of, D__law_rows_of⟩ := c.d.def_ 14 rfl
  have g__law_rows_of := gl 14 "_law_rows_of" rfl
  have F__law_rows_of := fun_of (x := "_law_rows_of") (q := "_law_rows_of") (st := (top 25)) D__law_rows_of
  have b__law_rows_of := F__law_rows_of.binds (ps := ["m", "d"]) fun _ _ _ _ _ _ us hl => match us, hl with | [_, _], _ => rfl
  obtain ⟨fd__law_exact, D__law_exact⟩ := c.d.def_ 15 rfl
  have g__law_exact := gl 15 "_law_exact" rfl
  have F__law_exact := fun_of (x := "_law_exact") (q := "_law_exact") (st := (top 26)) D__law_exact
  have b__law_exact := F__law_exact.binds (ps := ["told", "due"]) fun _ _ _ _ _ _ us hl => match us, hl with | [_, _], _ => rfl
  obtain ⟨fd__law_mix, D__law_mix⟩ := c.d.def_ 16 rfl
  have g__law_mix := gl 16 "_law_mix" rfl
  have F__law_mix := fun_of (x := "_law_mix") (q := "_law_mix") (st := (top 27)) D__law_mix
  have b__law_mix := F__law_mix.binds (ps := ["number", "turn"]) fun _ _ _ _ _ _ us hl => match us, hl with | [_, _], _ => rfl
  obtain ⟨fd__law_draw, D__law_draw⟩ := c.d.def_ 17 rfl
  have g__law_draw := gl 17 "_law_draw" rfl
  have F__law_draw := fun_of (x := "_law_draw") (q := "_law_draw") (st := (top 28)) D__law_draw
  have b__law_draw := F__law_draw.binds (ps := ["hand", "many"]) fun _ _ _ _ _ _ us hl => match us, hl with | [_, _], _ => rfl
  obtain ⟨fd__law_some_row, D__law_some_row⟩ := c.d.def_ 18 rfl
  have g__law_some_row := gl 18 "_law_some_row" rfl
  have F__law_some_row := fun_of (x := "_law_some_row") (q := "_law_some_row") (st := (top 29)) D__law_some_row
  have b__law_some_row := F__law_some_row.binds (ps := ["hand", "m", "d"]) fun _ _ _ _ _ _ us hl => match us, hl with | [_, _, _], _ => rfl
  obtain ⟨fd__law_seq, D__law_seq⟩ := c.d.def_ 19 rfl
  have g__law_seq := gl 19 "_law_seq" rfl
  have F__law_seq := fun_of (x := "_law_seq") (q := "_law_seq") (st := (top 30)) D__law_seq
  have b__law_seq := F__law_seq.binds (ps := ["hand", "row"]) fun _ _ _ _ _ _ us hl => match us, hl with | [_, _], _ => rfl
  obtain ⟨fd__law_no_count, D__law_no_count⟩ := c.d.def_ 20 rfl
  have g__law_no_count := gl 20 "_law_no_count" rfl
  have F__law_no_count := fun_of (x := "_law_no_count") (q := "_law_no_count") (st := (top 31)) D__law_no_count
  have b__law_no_count := F__law_no_count.binds (ps := ["hand", "most"]) fun _ _ _ _ _ _ us hl => match us, hl with | [_, _], _ => rfl
  obtain ⟨fd__law_hand, D__law_hand⟩ := c.d.def_ 21 rfl
  have g__law_hand := gl 21 "_law_hand" rfl
  have F__law_hand := fun_of (x := "_law_hand") (q := "_law_hand") (st := (top 32)) D__law_hand
  have b__law_hand := F__law_hand.binds (ps := ["script"]) fun _ _ _ _ _ _ us hl => match us, hl with | [_], _ => rfl
  obtain ⟨fd__law_asked, D__law_asked⟩ := c.d.def_ 22 rfl
  have g__law_asked := gl 22 "_law_asked" rfl
  have F__law_asked := fun_of (x := "_law_asked") (q := "_law_asked") (st := (top 33)) D__law_asked
  have b__law_asked := F__law_asked.binds (ps := ["which", "one", "two", "three"]) fun _ _ _ _ _ _ us hl => match us, hl with | [_, _, _, _], _ => rfl
  obtain ⟨fd__law_of_row, D__law_of_row⟩ := c.d.def_ 23 rfl
  have g__law_of_row := gl 23 "_law_of_row" rfl
  have F__law_of_row := fun_of (x := "_law_of_row") (q := "_law_of_row") (st := (top 34)) D__law_of_row
  have b__law_of_row := F__law_of_row.binds (ps := ["which", "m", "row"]) fun _ _ _ _ _ _ us hl => match us, hl with | [_, _, _], _ => rfl
  obtain ⟨fd__law_own_place, D__law_own_place⟩ := c.d.def_ 24 rfl
  have g__law_own_place := gl 24 "_law_own_place" rfl
  have F__law_own_place := fun_of (x := "_law_own_place") (q := "_law_own_place") (st := (top 35)) D__law_own_place
  have b__law_own_place := F__law_own_place.binds (ps := ["m", "row"]) fun _ _ _ _ _ _ us hl => match us, hl with | [_, _], _ => rfl
  obtain ⟨fd__law_listed, D__law_listed⟩ := c.d.def_ 25 rfl
  have g__law_listed := gl 25 "_law_listed" rfl
  have F__law_listed := fun_of (x := "_law_listed") (q := "_law_listed") (st := (top 36)) D__law_listed
  have b__law_listed := F__law_listed.binds (ps := ["m"]) fun _ _ _ _ _ _ us hl => match us, hl with | [_], _ => rfl
  obtain ⟨fd__law_great, D__law_great⟩ := c.d.def_ 26 rfl
  have g__law_great := gl 26 "_law_great" rfl
  have F__law_great := fun_of (x := "_law_great") (q := "_law_great") (st := (top 37)) D__law_great
  have b__law_great := F__law_great.binds (ps := ["hand"]) fun _ _ _ _ _ _ us hl => match us, hl with | [_], _ => rfl
  obtain ⟨fd__law_spoilt_row, D__law_spoilt_row⟩ := c.d.def_ 27 rfl
  have g__law_spoilt_row := gl 27 "_law_spoilt_row" rfl
  have F__law_spoilt_row := fun_of (x := "_law_spoilt_row") (q := "_law_spoilt_row") (st := (top 38)) D__law_spoilt_row
  have b__law_spoilt_row := F__law_spoilt_row.binds (ps := ["hand", "m", "row"]) fun _ _ _ _ _ _ us hl => match us, hl with | [_, _, _], _ => rfl
  obtain ⟨fd__law_refused, D__law_refused⟩ := c.d.def_ 28 rfl
  have g__law_refused := gl 28 "_law_refused" rfl
  have F__law_refused := fun_of (x := "_law_refused") (q := "_law_refused") (st := (top 39)) D__law_refused
  have b__law_refused := F__law_refused.binds (ps := ["hand"]) fun _ _ _ _ _ _ us hl => match us, hl with | [_], _ => rfl
  obtain ⟨fd__law_classes, D__law_classes⟩ := c.d.def_ 29 rfl
  have g__law_classes := gl 29 "_law_classes" rfl
  have F__law_classes := fun_of (x := "_law_classes") (q := "_law_classes") (st := (top 40)) D__law_classes
  have b__law_classes := F__law_classes.binds (ps := []) fun _ _ _ _ _ _ us hl => match us, hl with | [], _ => rfl
  obtain ⟨fd_law, D_law⟩ := c.d.def_ 30 rfl
  have g_law := gl 30 "law" rfl
  have F_law := fun_of (x := "law") (q := "law") (st := (top 41)) D_law
  have b_law := F_law.binds (ps := ["script"]) fun _ _ _ _ _ _ us hl => match us, hl with | [_], _ => rfl
  obtain ⟨fd_BadCount, D_BadCount⟩ := c.d.def_ 31 rfl
  have F_BadCount := fun_of (x := "__init__") (q := "BadCount.__init__") (st := s_bc) D_BadCount
  have b_BadCount := F_BadCount.binds (ps := ["self", "most"]) fun _ _ _ _ _ _ us hl => match us, hl with | [_, _], _ => rfl
  obtain ⟨fd_BadRow, D_BadRow⟩ := c.d.def_ 32 rfl
  have F_BadRow := fun_of (x := "__init__") (q := "BadRow.__init__") (st := s_br) D_BadRow
  have b_BadRow := F_BadRow.binds (ps := ["self", "at"]) fun _ _ _ _ _ _ us hl => match us, hl with | [_, _], _ => rfl
  have g_FrameError := gl 31 "FrameError" rfl
  have g_BadCount := gl 32 "BadCount" rfl
  have g_BadRow := gl 33 "BadRow" rfl
  have g_BadPlace := gl 34 "BadPlace" rfl
  have T : Bl mg := ⟨fr 35 "len" rfl, fr 36 "int" rfl, fr 37 "abs" rfl, fr 38 "range" rfl, fr 39 "enumerate" rfl, fr 40 "list" rfl, fr 41 "tuple" rfl, fr 42 "isinstance" rfl, fr 43 "bool" rfl, fr 44 "str" rfl, fr 45 "any" rfl, fr 46 "repr" rfl⟩
  have n_sum := fr 47 "sum" rfl
  have n_ValueError := fr 48 "ValueError" rfl
  have i_MOST_FRAMES := He.int_ok X G (c.d.fact 49 (f := .int "MOST_FRAMES" 24) rfl)
  have i_MOST_LISTED := He.int_ok X G (c.d.fact 50 (f := .int "MOST_LISTED" 6) rfl)
  have e := hfa.symm.trans g_law
  cases e
  have m := c.more
  have x (i : Nat) {b : Bool} (e : (exL K (He.ga K "FrameError") (He.ga K "BadCount") (He.ga K "BadRow") (He.ga K "BadPlace") (He.ma K (He.ga K "BadCount") "__init__") (He.ma K (He.ga K "BadRow") "__init__"))[i]? = some b) : b = true := all_at m i e
  have b_perm := PySem.W.mg_of X G (n := "perm") (He.eqO_ok (x 31 rfl))
  have ox_BadCount : OexC K (He.ga K "BadCount") := ⟨exB1_ok (x 0 rfl), He.eqO_ok (x 1 rfl), of_decide_eq_true (x 2 rfl), of_decide_eq_true (x 3 rfl), x 4 rfl⟩
  have m_BadCount := He.meth_ok (c.d.fact 52 (f := .meth "BadCount" "__init__") rfl)
  have no_BadCount_most := He.noat_ok (c.d.fact 51 (f := .noat "BadCount" "most") rfl)
  have xf_BadCount := xfB_ok (x 5 rfl)
  have ox_BadRow : OexC K (He.ga K "BadRow") := ⟨exB1_ok (x 7 rfl), He.eqO_ok (x 8 rfl), of_decide_eq_true (x 9 rfl), of_decide_eq_true (x 10 rfl), x 11 rfl⟩
  have m_BadRow := He.meth_ok (c.d.fact 54 (f := .meth "BadRow" "__init__") rfl)
  have no_BadRow_at := He.noat_ok (c.d.fact 53 (f := .noat "BadRow" "at") rfl)
  have xf_BadRow := xfB_ok (x 12 rfl)
  have exm_BadCount_BadCount := of_decide_eq_true (x 19 rfl)
  have exm_BadRow_BadCount := of_decide_eq_true (x 20 rfl)
  have exm_BadRow_BadRow := of_decide_eq_true (x 21 rfl)
  have exm_BadPlace_BadCount := of_decide_eq_true (x 22 rfl)
  have exm_BadPlace_BadRow := of_decide_eq_true (x 23 rfl)
  have exm_BadPlace_BadPlace := of_decide_eq_true (x 24 rfl)
  have exm_BadRow_FrameError := of_decide_eq_true (x 25 rfl)
  have kit_BadRow_BadRow := of_decide_eq_true (x 26 rfl)
  have kit_BadRow_BadPlace := of_decide_eq_true (x 27 rfl)
  have kit_BadRow_BadCount := of_decide_eq_true (x 28 rfl)
  have kit_BadRow_ValueError := of_decide_eq_true (x 29 rfl)
  have st_BadCount := of_decide_eq_true (x 30 rfl)
  have isc_BadRow : IsC K (He.ga K "BadRow") := ⟨x 14 rfl, xf_BadRow.gg, He.eqO_ok (x 15 rfl), He.eqO_ok (x 17 rfl), of_decide_eq_true (x 18 rfl), of_decide_eq_true (x 16 rfl), xf_BadRow⟩
  have ey_BadPlace := He.exc_ok (c.d.fact 55 (f := .exc "BadPlace") rfl)
  have y_BadPlace : Bare0 K mg "BadPlace" (He.ga K "BadPlace") := ⟨⟨_, _, _, _, PySem.F.excBase_ValueError, ey_BadPlace.1⟩, g_BadPlace, ey_BadPlace.2.1, ey_BadPlace.2.2.1, ey_BadPlace.2.2.2⟩
  have bl := FunD.bindsA (ps := ["script"]) D_law fun _ _ _ _ _ _ us hl => match us, hl with | [_], _ => rfl
  refine ⟨fd_law, fun s v => bl s [v] rfl, fun base _ _ => ?_⟩
  have x_BadCount : ExK P w K mg base "BadCount" (He.ga K "BadCount") ["most"] := ⟨⟨_, _, _, ox_BadCount, g_BadCount, m_BadCount.at_, of_decide_eq_true (x 6 rfl), ok_bc (P := P) (w := w) (base := base) F_BadCount ox_BadCount no_BadCount_most, b_BadCount⟩⟩
  have x_BadRow : ExK P w K mg base "BadRow" (He.ga K "BadRow") ["at"] := ⟨⟨_, _, _, ox_BadRow, g_BadRow, m_BadRow.at_, of_decide_eq_true (x 13 rfl), ok_br (P := P) (w := w) (base := base) F_BadRow ox_BadRow no_BadRow_at, b_BadRow⟩⟩
  have w_ok := ok_whole (P := P) (w := w) (base := base) D_is_whole T
  have k_wh : Cal P w K mg base CX0 "is_whole" 1 (spD K wWhole) := by
    obtain ⟨ds, hv, hb⟩ := bw_is_whole_3 D_is_whole
    cases hv
    exact ⟨⟨_, _, _, g_is_whole, D_is_whole.kp, hb, w_ok⟩⟩
  have d_wh : CalV P w K mg base CX0 "is_whole" 1 (spD K wWhole) [.non, .non] := by
    obtain ⟨ds, hv, hb⟩ := bw_is_whole_1 D_is_whole
    exact ⟨⟨_, _, _, ds, g_is_whole, D_is_whole.kp, hb, hv, w_ok⟩⟩
  have k_sq := cal_of F_is_sequence g_is_sequence b_is_sequence (ok_seq (P := P) (w := w) (base := base) F_is_sequence T)
  have c_ok := ok_count D_check_count T k_wh x_BadCount
  have d_cc : CalV P w K mg base (L2.CX P w) "check_count" 3 (spD K (wCount (He.ga K "BadCount"))) [.int 24] := by
    obtain ⟨ds, hv, hb⟩ := bw_check_count_1 D_check_count
    exact ⟨⟨_, _, _, ds, g_check_count, D_check_count.kp, hb, hv, c_ok⟩⟩
  have k_cc : Cal P w K mg base (L2.CX P w) "check_count" 3 (spD K (wCount (He.ga K "BadCount"))) := by
    obtain ⟨ds, hv, hb⟩ := bw_check_count_2 D_check_count
    cases hv
    exact ⟨⟨_, _, _, g_check_count, D_check_count.kp, hb, c_ok⟩⟩
  have k_fa := cal_of F__fault_among g__fault_among b__fault_among (ok_fa F__fault_among T k_wh d_wh k_sq)
  have k_rf := cal_of F_row_fault g_row_fault b_row_fault (ok_rf F_row_fault T k_fa)
  have k_cr := cal_of F_check_row g_check_row b_check_row (ok_cr F_check_row T d_cc k_rf x_BadRow)
  have k_cf := cal_of F_count_falling g_count_falling b_count_falling (ok_cf F_count_falling T b_perm d_cc)
  have k_call := cal_of F_count_all_rows g_count_all_rows b_count_all_rows (ok_call F_count_all_rows T n_sum b_perm d_cc)
  have k_rp := cal_of F_row_place g_row_place b_row_place (ok_rp F_row_place T b_perm k_cr)
  have k_ra := cal_of F_row_at g_row_at b_row_at (ok_ra F_row_at T b_perm y_BadPlace k_wh d_cc k_cc)
  have k_rn := cal_of F_row_number g_row_number b_row_number (ok_rn F_row_number T n_sum b_perm k_rp)
  have k_rnd := cal_of F_row_numbered g_row_numbered b_row_numbered (ok_rnd F_row_numbered T b_perm y_BadPlace k_wh k_call k_ra)
  have k_ar := calg_of F_all_rows g_all_rows b_all_rows (ok_ar F_all_rows T b_perm i_MOST_LISTED k_cc k_ra)
  have k_mix := cal_of F__law_mix g__law_mix b__law_mix (ok_mix (P := P) (w := w) (base := base) F__law_mix T)
  have k_dr0 := cal_of F__law_draw g__law_draw b__law_draw (ok_draw F__law_draw T k_mix)
  have k_dr := draw_D k_dr0
  have k_srow := cal_of F__law_some_row g__law_some_row b__law_some_row (ok_srow F__law_some_row T k_dr)
  have k_sqd := cal_of F__law_seq g__law_seq b__law_seq (ok_sqd F__law_seq T k_dr)
  have k_exact : Cal P w K mg base CX0 "_law_exact" 4 (spD K (wExact 4)) := cal_of F__law_exact g__law_exact b__law_exact (ok_exN F__law_exact T g__law_exact F__law_exact.kp b__law_exact 4)
  have k_lfa := cal_of F__law_falling g__law_falling b__law_falling (ok_lfa (P := P) (w := w) (base := base) F__law_falling T)
  have k_lro := cal_of F__law_rows_of g__law_rows_of b__law_rows_of (ok_lro (P := P) (w := w) (base := base) F__law_rows_of T)
  have k_lop := cal_of F__law_own_place g__law_own_place b__law_own_place (ok_lop F__law_own_place T k_lfa)
  have k_nc := cal_of F__law_no_count g__law_no_count b__law_no_count (ok_nc F__law_no_count T k_dr)
  have k_spr := cal_of F__law_spoilt_row g__law_spoilt_row b__law_spoilt_row (ok_spr F__law_spoilt_row T k_dr k_nc)
  have k_hand := cal_of F__law_hand g__law_hand b__law_hand (ok_hand (P := P) (w := w) (base := base) F__law_hand T)
  have k_orw := cal_of F__law_of_row g__law_of_row b__law_of_row (ok_orw F__law_of_row T k_cr k_rp k_rn)
  have V1 : Errs K (He.ga K "BadCount") (He.ga K "BadRow") (He.ga K "BadPlace") := ⟨exm_BadCount_BadCount, exm_BadRow_BadCount, exm_BadRow_BadRow, exm_BadPlace_BadCount, exm_BadPlace_BadRow, exm_BadPlace_BadPlace, st_BadCount, xf_BadCount, xf_BadRow, no_BadCount_most, no_BadRow_at⟩
  have V2 : Fam K (He.ga K "FrameError") (He.ga K "BadCount") (He.ga K "BadRow") (He.ga K "BadPlace") := ⟨exm_BadRow_FrameError, isc_BadRow, kit_BadRow_BadRow, kit_BadRow_BadPlace, kit_BadRow_BadCount, kit_BadRow_ValueError⟩
  have k_ask := cal_of F__law_asked g__law_asked b__law_asked (ok_ask F__law_asked T V1 g_BadCount g_BadRow g_BadPlace k_cc d_cc k_orw k_ra k_rnd k_cf k_call k_ar)
  have k_lcl := cal_of F__law_classes g__law_classes b__law_classes (ok_lcl F__law_classes T V2 n_ValueError g_FrameError g_BadCount g_BadRow g_BadPlace k_rp)
  have k_lst := cal_of F__law_listed g__law_listed b__law_listed (ok_lst F__law_listed T k_lro k_exact k_cf k_call k_ar k_rn k_rnd k_rp k_ra)
  have k_gr := cal_of F__law_great g__law_great b__law_great (ok_gr F__law_great T n_sum k_dr k_srow k_sqd k_exact k_ask k_nc k_lfa k_lop)
  have k_lrf := cal_of F__law_refused g__law_refused b__law_refused (ok_lrf F__law_refused T k_dr k_srow k_spr k_exact k_ask k_nc)
  refine run_def (k := 10) F_law sc_law (fun vs H Q E h => ?_) ⟨rfl, by decide, by decide⟩ (fun cdv s H vs Q E hr h => law_body T i_MOST_FRAMES k_hand k_exact k_dr k_lst k_lcl k_gr k_lrf cdv s H vs Q E hr h)
  obtain ⟨a, ns, rfl, _⟩ := h
  rfl
end Z

set_option Elab.async false
set_option linter.all false
set_option maxRecDepth 100000
set_option maxHeartbeats 0
namespace Z
open PySem L2
open PySem.Spec PyProof.Rows
abbrev Rw : PySem.W.OpenRow := PySem.W.OpenLaw.row PySem.Challenge.rw_spentframes_k07_whole_rows_counted_and_f
abbrev hkw : PySem.W.Hook := hookY 5 faL fnL exK
def obw (s : PySem.W.SharedT) : AlY := obsY 5 faL fnL exK (HandSHeadRun.getT s)
theorem obw_eq (s : PySem.W.SharedT) : obw s = hkw.obs s.abs := obsY_eq (HandSHeadRun.getT_eq s)
def loosew : List Str := ("_wall" : Str) :: ("FrameError" : Str) :: ("BadCount" : Str) :: ("BadRow" : Str) :: ("BadPlace" : Str) :: ("is_whole" : Str) :: ("is_sequence" : Str) :: ("check_count" : Str) :: ("_fault_among" : Str) :: ("row_fault" : Str) :: ("check_row" : Str) :: ("count_falling" : Str) :: ("count_all_rows" : Str) :: ("row_place" : Str) :: ("row_at" : Str) :: ("row_number" : Str) :: ("row_numbered" : Str) :: ("all_rows" : Str) :: ("_law_falling" : Str) :: ("_law_rows_of" : Str) :: ("_law_exact" : Str) :: ("_law_mix" : Str) :: ("_law_draw" : Str) :: ("_law_some_row" : Str) :: ("_law_seq" : Str) :: ("_law_no_count" : Str) :: ("_law_hand" : Str) :: ("_law_asked" : Str) :: ("_law_of_row" : Str) :: ("_law_own_place" : Str) :: ("_law_listed" : Str) :: ("_law_great" : Str) :: ("_law_spoilt_row" : Str) :: ("_law_refused" : Str) :: ("_law_classes" : Str) :: ("MOST_FRAMES" : Str) :: ("MOST_LISTED" : Str) :: []
theorem runw (w : World) : HandSHeadRun.RunEqI Rw (PySem.W.view Rw.prog [0, 41]) hkw obw 6000 loosew w := by
  unfold HandSHeadRun.RunEqI
  kernel_rfl
end Z
open PySem PySem.W PySem.Calls PyProof.Rows
theorem PySem.Challenge.cw_spentframes_k07_whole_rows_counted_and_f_holds : PySem.Challenge.rw_spentframes_k07_whole_rows_counted_and_f.Holds := by
  w_on; o_law
  refine HandSHeadRun.head_imp (r := OpenLaw.row PySem.Challenge.rw_spentframes_k07_whole_rows_counted_and_f) (q := view (OpenLaw.row PySem.Challenge.rw_spentframes_k07_whole_rows_counted_and_f).prog [0, 41]) (H := Z.hkw) (ob := Z.obw) (M := 6000) (loose := Z.loosew) (d := HandSHeadRun.topDef (OpenLaw.row PySem.Challenge.rw_spentframes_k07_whole_rows_counted_and_f).prog 41) (kwd := []) Z.obw_eq
    Z.runw (by kernel_rfl) (by kernel_rfl) (by kernel_rfl) (by rfl) (by first | assumption | decide +kernel) (by decide +kernel) ⟨rfl, rfl, rfl, rfl, rfl, by decide +kernel⟩ ?hw ?hc
  case hw => w_witness2
  case hc =>
    refine Z.run_walkE (l := PySem.Challenge.rw_spentframes_k07_whole_rows_counted_and_f) (n := 63) (x := "script") rfl (by decide) (by kernel_rfl) ?F
    intro w mg fa h Y G hmg0
    obtain ⟨K, KX, c⟩ := Y
    have hmg : mg ("law" : PySem.Str) = some (.ref fa) := by
      have e : (HandSHeadRun.topDef (OpenLaw.row PySem.Challenge.rw_spentframes_k07_whole_rows_counted_and_f).prog 41).name = ("law" : PySem.Str) := by kernel_rfl
      rw [← e]
      exact hmg0
    obtain ⟨fd, hb, hF⟩ := Z.facts (P := (PySem.Challenge.rw_spentframes_k07_whole_rows_counted_and_f).prog) (w := w) KX G hmg c
    exact ⟨K, fd, Z.spLaw K, KX, hb, fun H a ns hl _ hS => ⟨a, ns, rfl, hS, hl, fun _ => rfl⟩, hF⟩
