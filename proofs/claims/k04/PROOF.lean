import PyProof.Rows.All
import Wide.All
import OpenK.AllK
import Wide.FinOn
import PyProof.EqAt
import PyProof.EqKinds
import PyProof.TupleCall
import HandS.Base
import HandS.Call
import HandS.List
import HandS.Comp
import HandS.Iter
import HandS.Ends
import HandS.Words
import HandS.WordsList
import HandS.IsInst
import HandS.Flow
import HandS.TupLe
import HandS.Defaults
import KE.GoesMore
import KE.GoesEnum
import PyProof.EnumMake
import PyProof.Draws
import HandS.Walk
import HandS.NoneIn
import HandS.TupAny
import HandS.Conv
import PySem.Challenge.RW_spentframes_k04_refused_orders
import HandS.Exc
import HandS.ExcOwn
import HandS.ExcInit
import HandS.ExcField
import HandS.WordsExc
import HandS.Deep
import KE.KExcIs
import PyProof.ReprRoads
import PyProof.ReprLen
import PyProof.Rows.RegStrFacts
import HandS.MakeKw
import PyProof.CallFns
import KE.KStateDown
import HandS.Head0
import HandS.Head1
import HandS.Head2
import HandS.HeadEnd
import HandS.HeadHook1
import HandS.HeadHook2
set_option Elab.async false
set_option linter.all false
set_option maxRecDepth 100000
namespace Z
open PySem L2
/-- a def of the module that may be called, with its promise -/
structure Cal (P : Program) (w : World) (K : PySem.W.Frag) (mg : Str → Option Value) (base : Heap) (CX : CXT) (x : Str) (k : Nat) (sp : Sp) : Prop where
  ex : ∃ (f : Addr) (fd : FuncData) (ps : List Str), mg x = some (.ref f) ∧ PySem.W.keepIn K (.ref f) = true ∧ Binds K fd ps [] ∧ FnOk P w K mg base CX k f fd ps sp
section
variable {X : Cx} {CX : CXT} {x : Str} {k j : Nat} {sp : Sp} {E : XK} {e : Expr} {es : List Expr} {t : TA} {p pos : Pos}
theorem pe_calX (c : Cal X.prog X.w X.K X.mg X.base CX x k sp) (hr : Room k X.A) (hg : Gl X x) (hx : Passes CX X E) (ha : PA X (e :: es) t)
    (hdb : (x == ("__debug__" : Str)) = false := by decide) (he : starEach (e :: es) X.env = (false, eval e X.env) :: starEach es X.env := by rfl) (hpl : (backTo pos (starEach es X.env)).any (·.1) = false := by rfl) :
    PE X (.Call (.Name x p) (e :: es) [] pos) (tCall sp [] E t) := by
  obtain ⟨f, fd, ps, hm, hk, hb, F⟩ := c.ex
  exact pe_call F hr hg hm hk hb .nil hx ha hdb he hpl
theorem pe_cal (c : Cal X.prog X.w X.K X.mg X.base CX0 x k sp) (hr : Room k X.A) (hg : Gl X x) (ha : PA X (e :: es) t)
    (hdb : (x == ("__debug__" : Str)) = false := by decide) (he : starEach (e :: es) X.env = (false, eval e X.env) :: starEach es X.env := by rfl) (hpl : (backTo pos (starEach es X.env)).any (·.1) = false := by rfl) :
    PE X (.Call (.Name x p) (e :: es) [] pos) (tCall sp [] E0 t) := pe_calX c hr hg pass0 ha hdb he hpl
end
theorem iteB {b : Bool} {A B : Prop} (h1 : b = true → A) (h2 : b = false → B) : if b = true then A else B := by
  cases b with
  | true => exact iteT (h1 rfl)
  | false => exact iteF (h2 rfl)
theorem dec_i {i j : Int} : decide (V.int i = V.int j) = decide (i = j) := by
  rw [Bool.eq_iff_iff]
  simp
theorem dec_i_t {i j : Int} (h : decide (V.int i = V.int j) = true) : i = j := by
  rw [dec_i] at h
  exact of_decide_eq_true h
theorem dec_i_f {i j : Int} (h : decide (V.int i = V.int j) = false) : i ≠ j := by
  rw [dec_i] at h
  exact of_decide_eq_false h
/-- the names of built-ins that the law's text reads -/
structure Bl (mg : Str → Option Value) : Prop where
  n_len : mg "len" = none
  n_int : mg "int" = none
  n_abs : mg "abs" = none
  n_range : mg "range" = none
  n_enumerate : mg "enumerate" = none
  n_list : mg "list" = none
  n_tuple : mg "tuple" = none
  n_isinstance : mg "isinstance" = none
  n_bool : mg "bool" = none
  n_str : mg "str" = none
  n_any : mg "any" = none
  n_repr : mg "repr" = none
/-- all but the object at h as it was -/
def Keep (h : Addr) (H H' : Hp) : Prop := ∀ b o, H b = some o → b ≠ h → H' b = some o
theorem Keep.refl (h : Addr) (H : Hp) : Keep h H H := fun _ _ e _ => e
theorem Keep.trans {h : Addr} {H H1 H2 : Hp} (a : Keep h H H1) (b : Keep h H1 H2) : Keep h H H2 := fun c o e n => b c o (a c o e n) n
theorem Keep.of_same {h : Addr} {H H' : Hp} (s : Same H H') : Keep h H H' := fun b o e _ => s b o e
theorem Keep.upd {h : Addr} {H : Hp} {o : HO} : Keep h H (upd H h o) := fun b u e n => by rw [upd_ne n]; exact e
theorem same_new {H : Hp} {p : Addr} {o : HO} (n : H p = none) : Same H (upd H p o) := fun b u e => by rw [upd_ne (ne_of_none e n)]; exact e
theorem Keep.new {h : Addr} {H : Hp} {p : Addr} {o : HO} (n : H p = none) : Keep h H (L2.upd H p o) := .of_same (same_new n)
/-- the draws' hand, at h -/
structure Hnd (H : Hp) (h a : Addr) : Prop where
  ex : ∃ (cells : List Int) (i : Nat) (r t : Int), H h = some (.lst [.ref a, .int (i : Nat), .int r, .int t]) ∧ H a = some (.lst (cells.map V.int)) ∧ a ≠ h ∧ cells.length ≤ 63 ∧ (∀ c ∈ cells, 0 ≤ c) ∧ i ≤ cells.length ∧ 0 ≤ r ∧ 0 ≤ t ∧ t < 2147483549
theorem Hnd.same {H H' : Hp} {h a : Addr} (hn : Hnd H h a) (s : Same H H') : Hnd H' h a := by
  obtain ⟨cs, i, r, t, e1, e2, q⟩ := hn.ex
  exact ⟨cs, i, r, t, s _ _ e1, s _ _ e2, q⟩
theorem Hnd.new {H : Hp} {h a p : Addr} {o : HO} (hn : Hnd H h a) (n : H p = none) : Hnd (upd H p o) h a := hn.same (same_new n)
theorem Hnd.there {H : Hp} {h a : Addr} (hn : Hnd H h a) : ∃ o, H h = some o := by
  obtain ⟨cs, i, r, t, e1, _⟩ := hn.ex
  exact ⟨_, e1⟩
theorem Hnd.ne {H : Hp} {h a p : Addr} (hn : Hnd H h a) (n : H p = none) : p ≠ h := by
  obtain ⟨o, e⟩ := hn.there
  exact (ne_of_none e n).symm
theorem Hnd.nea {H : Hp} {h a p : Addr} (hn : Hnd H h a) (n : H p = none) : p ≠ a := by
  obtain ⟨cs, i, r, t, e1, e2, _⟩ := hn.ex
  exact (ne_of_none e2 n).symm
theorem Hnd.off {H : Hp} {h a p : Addr} {o : HO} (hn : Hnd H h a) (np : p ≠ h) (na : p ≠ a) : Hnd (upd H p o) h a := by
  obtain ⟨cs, i, r, t, e1, e2, q⟩ := hn.ex
  exact ⟨cs, i, r, t, by rw [upd_ne np.symm]; exact e1, by rw [upd_ne na.symm]; exact e2, q⟩
/-! ### promises of the drawing -/
def spMix : Sp := fun vs H Q _ => ∃ a b : Int, vs = [.int a, .int b] ∧ 0 ≤ a ∧ a < 2147483648 ∧ 0 ≤ b ∧ b < 2147483648 ∧ ∀ m : Int, 0 ≤ m → Q (.int m) H
def spDraw : Sp := fun vs H Q _ => ∃ (h a : Addr) (m : Int), vs = [.ref h, .int m] ∧ Hnd H h a ∧ 1 ≤ m ∧ m < 1073741824 ∧
  ∀ (d : Int) (H' : Hp), 0 ≤ d → d < m → Keep h H H' → Hnd H' h a → (∀ b, H b = none → H' b = none) → Q (.int d) H'
end Z

set_option Elab.async false
set_option linter.all false
set_option maxRecDepth 100000
namespace Z
open PySem L2
/-! ### data -/
mutual
theorem Dp.same {K : PySem.W.Frag} {H H' : Hp} (s : Same H H') : ∀ (d : PyData) (v : V), Dp K H v d → Dp K H' v d
  | .none, _, h => by cases h; exact .non
  | .bool b, _, h => by cases h; exact .bl b
  | .int i, _, h => by cases h; exact .int i
  | .str x, _, h => by cases h; exact .str x
  | .list ds, _, h => by
    cases h with
    | lst a b => exact .lst (s.seq a) (DpAll.same s ds _ b)
  | .tuple ds, _, h => by
    cases h with
    | tup a b => exact .tup (by
        rcases a with (a | ⟨o, a⟩) | a
        · exact .inl (.inl (s _ _ a))
        · exact .inl (.inr ⟨o, s _ _ a⟩)
        · exact .inr a) (DpAll.same s ds _ b)
  | .dict _, _, h => by cases h
theorem DpAll.same {K : PySem.W.Frag} {H H' : Hp} (s : Same H H') : ∀ (ds : List PyData) (vs : List V), DpAll K H vs ds → DpAll K H' vs ds
  | [], _, h => by cases h; exact .nil
  | d :: ds, _, h => by
    cases h with
    | cons a b => exact .cons (Dp.same s d _ a) (DpAll.same s ds _ b)
end
theorem Same.sqT {K : PySem.W.Frag} {H H' : Hp} {a : Addr} {xs : List V} (e : Same H H') (h : SqT K H a xs) : SqT K H' a xs := by
  rcases h with (h | ⟨o, h⟩) | h
  · exact .inl (.inl (e _ _ h))
  · exact .inl (.inr ⟨o, e _ _ h⟩)
  · exact .inr h
theorem DpAll.len {K : PySem.W.Frag} {H : Hp} : ∀ {ds : List PyData} {vs : List V}, DpAll K H vs ds → vs.length = ds.length
  | [], _, h => by cases h; rfl
  | d :: ds, _, h => by
    cases h with
    | cons a b => simp [DpAll.len b]
theorem DpAll.get {K : PySem.W.Frag} {H : Hp} : ∀ {ds : List PyData} {vs : List V} {i : Nat} {v : V}, DpAll K H vs ds → vs[i]? = some v → ∃ d, ds[i]? = some d ∧ Dp K H v d
  | [], _, i, v, h, e => by cases h; simp at e
  | d :: ds, _, 0, v, h, e => by
    cases h with
    | cons a b =>
      simp at e
      subst e
      exact ⟨d, rfl, a⟩
  | d :: ds, _, i + 1, v, h, e => by
    cases h with
    | cons a b =>
      obtain ⟨d', h1, h2⟩ := DpAll.get (i := i) (v := v) b (by simpa using e)
      exact ⟨d', by simpa using h1, h2⟩
theorem DpAll.get' {K : PySem.W.Frag} {H : Hp} : ∀ {ds : List PyData} {vs : List V} {i : Nat} {d : PyData}, DpAll K H vs ds → ds[i]? = some d → ∃ v, vs[i]? = some v ∧ Dp K H v d
  | [], _, i, v, h, e => by simp at e
  | d :: ds, _, 0, v, h, e => by
    cases h with
    | cons a b =>
      simp at e
      subst e
      exact ⟨_, rfl, a⟩
  | d :: ds, _, i + 1, v, h, e => by
    cases h with
    | cons a b =>
      obtain ⟨d', h1, h2⟩ := DpAll.get' (i := i) (d := v) b (by simpa using e)
      exact ⟨d', by simpa using h1, h2⟩
theorem DpAll.app {K : PySem.W.Frag} {H : Hp} : ∀ {ds es : List PyData} {vs ws : List V}, DpAll K H vs ds → DpAll K H ws es → DpAll K H (vs ++ ws) (ds ++ es)
  | [], _, _, _, h, g => by cases h; exact g
  | d :: ds, _, _, _, h, g => by
    cases h with
    | cons a b => exact .cons a (DpAll.app b g)
theorem DpAll.take {K : PySem.W.Frag} {H : Hp} : ∀ {ds : List PyData} {vs : List V} (n : Nat), DpAll K H vs ds → DpAll K H (vs.take n) (ds.take n)
  | _, _, 0, _ => by simpa using .nil
  | [], _, n + 1, h => by cases h; exact .nil
  | d :: ds, _, n + 1, h => by
    cases h with
    | cons a b => exact .cons a (DpAll.take n b)
theorem DpAll.drop {K : PySem.W.Frag} {H : Hp} : ∀ {ds : List PyData} {vs : List V} (n : Nat), DpAll K H vs ds → DpAll K H (vs.drop n) (ds.drop n)
  | _, _, 0, h => h
  | [], _, n + 1, h => by cases h; exact .nil
  | d :: ds, _, n + 1, h => by
    cases h with
    | cons a b => exact DpAll.drop n b
/-! ### kinds of data -/
def tyN : PyData → String
  | .none => "NoneType" | .bool _ => "bool" | .int _ => "int" | .str _ => "str" | .list _ => "list" | .tuple _ => "tuple" | .dict _ => "dict"
theorem ty_of_dp {K : PySem.W.Frag} {H : Hp} {d : PyData} {v : V} (h : Dp K H v d) : TyX K H v (.type (tyN d)) := by
  cases h with
  | non => exact .base .non
  | bl b => exact .base (.bl b)
  | int i => exact .base (.int i)
  | str x => exact .base (.str x)
  | lst a _ =>
    rcases a with (a | ⟨o, a⟩) | ⟨o, its, n, k, c, _⟩
    · exact .base (.lst a)
    · exact .base (.frz a)
    · exact .kList k c
  | tup a _ =>
    rcases a with (a | ⟨o, a⟩) | ⟨o, its, n, k, c, _⟩
    · exact .base (.tup a)
    · exact .fTuple a
    · exact .kTuple k c
def isB : PyData → Bool | .bool _ => true | _ => false
def isI : PyData → Bool | .bool _ => true | .int _ => true | _ => false
def isS : PyData → Bool | .str _ => true | _ => false
def isT : PyData → Bool | .tuple _ => true | _ => false
def isL : PyData → Bool | .list _ => true | _ => false
theorem kb_bool (d : PyData) : kitB (tyN d) "bool" = some (isB d) :=
  match d with
  | .none => (by decide +kernel : kitB "NoneType" "bool" = some false)
  | .bool _ => (by decide +kernel : kitB "bool" "bool" = some true)
  | .int _ => (by decide +kernel : kitB "int" "bool" = some false)
  | .str _ => (by decide +kernel : kitB "str" "bool" = some false)
  | .list _ => (by decide +kernel : kitB "list" "bool" = some false)
  | .tuple _ => (by decide +kernel : kitB "tuple" "bool" = some false)
  | .dict _ => (by decide +kernel : kitB "dict" "bool" = some false)
theorem kb_int (d : PyData) : kitB (tyN d) "int" = some (isI d) :=
  match d with
  | .none => (by decide +kernel : kitB "NoneType" "int" = some false)
  | .bool _ => (by decide +kernel : kitB "bool" "int" = some true)
  | .int _ => (by decide +kernel : kitB "int" "int" = some true)
  | .str _ => (by decide +kernel : kitB "str" "int" = some false)
  | .list _ => (by decide +kernel : kitB "list" "int" = some false)
  | .tuple _ => (by decide +kernel : kitB "tuple" "int" = some false)
  | .dict _ => (by decide +kernel : kitB "dict" "int" = some false)
theorem kb_str (d : PyData) : kitB (tyN d) "str" = some (isS d) :=
  match d with
  | .none => (by decide +kernel : kitB "NoneType" "str" = some false)
  | .bool _ => (by decide +kernel : kitB "bool" "str" = some false)
  | .int _ => (by decide +kernel : kitB "int" "str" = some false)
  | .str _ => (by decide +kernel : kitB "str" "str" = some true)
  | .list _ => (by decide +kernel : kitB "list" "str" = some false)
  | .tuple _ => (by decide +kernel : kitB "tuple" "str" = some false)
  | .dict _ => (by decide +kernel : kitB "dict" "str" = some false)
theorem kb_tuple (d : PyData) : kitB (tyN d) "tuple" = some (isT d) :=
  match d with
  | .none => (by decide +kernel : kitB "NoneType" "tuple" = some false)
  | .bool _ => (by decide +kernel : kitB "bool" "tuple" = some false)
  | .int _ => (by decide +kernel : kitB "int" "tuple" = some false)
  | .str _ => (by decide +kernel : kitB "str" "tuple" = some false)
  | .list _ => (by decide +kernel : kitB "list" "tuple" = some false)
  | .tuple _ => (by decide +kernel : kitB "tuple" "tuple" = some true)
  | .dict _ => (by decide +kernel : kitB "dict" "tuple" = some false)
theorem kb_list (d : PyData) : kitB (tyN d) "list" = some (isL d) :=
  match d with
  | .none => (by decide +kernel : kitB "NoneType" "list" = some false)
  | .bool _ => (by decide +kernel : kitB "bool" "list" = some false)
  | .int _ => (by decide +kernel : kitB "int" "list" = some false)
  | .str _ => (by decide +kernel : kitB "str" "list" = some false)
  | .list _ => (by decide +kernel : kitB "list" "list" = some true)
  | .tuple _ => (by decide +kernel : kitB "tuple" "list" = some false)
  | .dict _ => (by decide +kernel : kitB "dict" "list" = some false)
theorem ka_seq {K : PySem.W.Frag} {nm : String} {a b : Bool} (h1 : kitB nm "list" = some a) (h2 : kitB nm "tuple" = some b) : PySem.W.kitAny K (.type nm) [.type "list", .type "tuple"] = some (a || b) := by
  refine kitAny_cons (kit_ty h1) (fun e => ?_) (fun e => by rw [e]; rfl)
  refine kitAny_cons (kit_ty h2) (fun e2 => ?_) (fun e2 => by rw [e2]; simp)
  rw [e, e2]
  exact kitAny_nil
/-- a whole number within bounds -/
def whole (d : PyData) (lo hi : Option Int) : Bool :=
  match d with
  | .int i => (match lo with | some l => decide (l ≤ i) | none => true) && (match hi with | some u => decide (i ≤ u) | none => true)
  | _ => false
def oV : Option Int → V | some i => .int i | none => .non
def spWhole (K : PySem.W.Frag) : Sp := fun vs H Q _ => ∃ (x : V) (d : PyData) (lo hi : Option Int), vs = [x, oV lo, oV hi] ∧ Dp K H x d ∧ Q (.bl (whole d lo hi)) H
/-- what is_sequence is asked: data, or a dict -/
inductive AnyD (K : PySem.W.Frag) (H : Hp) : V → PyData → Prop
  | dp {v : V} {d : PyData} : Dp K H v d → AnyD K H v d
  | dk {a : Addr} : H a = some (.dK []) → AnyD K H (.ref a) (.dict [])
theorem ty_of_any {K : PySem.W.Frag} {H : Hp} {d : PyData} {v : V} (h : AnyD K H v d) : TyX K H v (.type (tyN d)) := by
  cases h with
  | dp h => exact ty_of_dp h
  | dk h => exact .base (.dK h)
theorem AnyD.same {K : PySem.W.Frag} {H H' : Hp} {d : PyData} {v : V} (s : Same H H') (h : AnyD K H v d) : AnyD K H' v d := by
  cases h with
  | dp h => exact .dp (Dp.same s _ _ h)
  | dk h => exact .dk (s _ _ h)
def isSeq (d : PyData) : Bool := isL d || isT d
def spSeq (K : PySem.W.Frag) : Sp := fun vs H Q _ => ∃ (x : V) (d : PyData), vs = [x] ∧ AnyD K H x d ∧ ∀ H', Same H H' → Q (.bl (isSeq d)) H'
def seqOf : PyData → Option (List PyData) | .list ds => some ds | .tuple ds => some ds | _ => none
def couple (d : PyData) (high : Int) : Bool :=
  match seqOf d with
  | some [a, b] => whole a (some 0) (some high) && whole b (some 0) (some high)
  | _ => false
def spCouple (K : PySem.W.Frag) : Sp := fun vs H Q _ => ∃ (x : V) (d : PyData) (hi : Int), vs = [x, .int hi] ∧ Dp K H x d ∧ ∀ H', Same H H' → Q (.bl (couple d hi)) H'
theorem seq_dp {K : PySem.W.Frag} {H : Hp} {d : PyData} {v : V} (h : Dp K H v d) (hs : isSeq d = true) : ∃ (p : Addr) (ys : List V) (ds : List PyData), v = .ref p ∧ (SqL K H p ys ∨ SqT K H p ys) ∧ DpAll K H ys ds ∧ seqOf d = some ds := by
  cases h with
  | lst a b => exact ⟨_, _, _, rfl, .inl a, b, rfl⟩
  | tup a b => exact ⟨_, _, _, rfl, .inr a, b, rfl⟩
  | _ => cases hs
theorem seq_not {d : PyData} (hs : isSeq d = false) : seqOf d = none := by
  cases d with
  | list _ => cases hs
  | tuple _ => cases hs
  | _ => rfl
theorem couple_no {d : PyData} {hi : Int} (hs : isSeq d = false) : couple d hi = false := by
  unfold couple
  rw [seq_not hs]
theorem couple_len {d : PyData} {hi : Int} {ds : List PyData} (hs : seqOf d = some ds) (hl : ds.length ≠ 2) : couple d hi = false := by
  unfold couple
  rw [hs]
  match ds, hl with
  | [], _ => rfl
  | [_], _ => rfl
  | [_, _], h => exact absurd rfl h
  | _ :: _ :: _ :: _, _ => rfl
theorem couple_two {d a b : PyData} {hi : Int} (hs : seqOf d = some [a, b]) : couple d hi = (whole a (some 0) (some hi) && whole b (some 0) (some hi)) := by
  unfold couple
  rw [hs]
theorem two_of {α : Type} {l : List α} (h : l.length = 2) : ∃ a b, l = [a, b] := by
  match l, h with
  | [a, b], _ => exact ⟨a, b, rfl⟩
end Z

set_option Elab.async false
set_option linter.all false
set_option maxRecDepth 100000
namespace PySem
set_option maxHeartbeats 1200000 in
/-- enumerate(v) of whatever begins: its two new cells -/
theorem enu_meets {v : Value} {o : Obj} {G : Heap → Prop} (B : Begins v o G) : Meets (Builtin.«enumerate.__new__» ⟨[.type "enumerate", v], []⟩)
    (fun _ R s => G s.heap ∧ R (.ok (.ret (.ref (s.heap.push o).objs.size)))
      { s with heap := (s.heap.push o).push { cls := .type "enumerate", data := .fields #[.none, .bool false, .ref s.heap.objs.size, rawInt 0, .none, .none] } }) :=
  .of_wp fun prog w A R s0 hg => by
    obtain ⟨hp, gs, dr, tk, os⟩ := s0
    obtain ⟨g1, hR⟩ := hg
    have hsub := sub_enumerate
    have go : ∀ {A' : Around} {E : Value → Shared → Prop} {Q : Value → Shared → Prop}, Q (.ref hp.objs.size) ⟨hp.push o, gs, dr, tk, os⟩ →
        wpAny (model prog w) A' (pyIter v) Q E ⟨hp, gs, dr, tk, os⟩ := fun q => B.iter prog w _ _ ⟨hp, gs, dr, tk, os⟩ _ g1 q
    wp_walk using go
    refine wpAny_stack_any fun st => wpAny_pure ?_
    split
    · rename_i c _ _ _ _ _
      cases (c == Value.type "enumerate") <;> (wp_walk using go; exact ⟨_, rfl, hR⟩)
    · wp_walk using go
      exact ⟨_, rfl, hR⟩
theorem enu_call {prog : Program} {w : World} {A : Around} {E : Value → Shared → Prop} {s : Shared} {v : Value} {o : Obj} {G : Heap → Prop} {Q : Value → Shared → Prop} (B : Begins v o G) (g1 : G s.heap)
    (k : ∀ h2, IsEnum h2 (s.heap.objs.size + 1) s.heap.objs.size 0 .none → h2.get? s.heap.objs.size = some o → (∀ b u, s.heap.get? b = some u → h2.get? b = some u) → Q (.ref (s.heap.objs.size + 1)) { s with heap := h2 }) :
    wpAny (model prog w) A (call (.type "enumerate") [v]) Q E s := by
  have sz1 : (s.heap.push o).objs.size = s.heap.objs.size + 1 := Heap.size_push ..
  refine callType_new F.called_enumerate (by decide) (F.typeCall_enumerate_1 _) (F.newCall_enumerate_1 _) (fun obj => F.args_object_init_2 obj _) F.entry_enumerate_new (enu_meets B) ⟨g1, ?_⟩
  show _ ∧ _
  rw [sz1]
  have en : IsEnum ((s.heap.push o).push { cls := .type "enumerate", data := .fields #[.none, .bool false, .ref s.heap.objs.size, rawInt 0, .none, .none] }) (s.heap.objs.size + 1) s.heap.objs.size 0 .none := by
    have z := Heap.get?_push_size (s.heap.push o) (o := { cls := .type "enumerate", data := .fields #[.none, .bool false, .ref s.heap.objs.size, rawInt 0, .none, .none] }) rfl
    rw [sz1] at z
    exact z
  refine ⟨⟨_, en, rfl⟩, k _ en ?_ ?_⟩
  · exact Heap.get?_push_of_some _ (Heap.get?_push_size _ B.free)
  · exact fun b u e => Heap.get?_push_of_some _ (Heap.get?_push_of_some _ e)
end PySem

namespace Z
open PySem L2 PySem.Spec PyProof.Rows
/-- enumerate of the tuple at a: each item in a new pair -/
def ItU (K : PySem.W.Frag) (a : Addr) : It where
  go i H := ∃ (xs : List V) (x : V), SqT K H a xs ∧ xs[i]? = some x
  yld i H v H' := ∃ T x, v = .ref T ∧ H T = none ∧ H' = upd H T (.tup [.int (i : Nat), x]) ∧ ∀ xs, SqT K H a xs → xs[i]? = some x
  stop i H := ∃ xs : List V, SqT K H a xs ∧ xs.length = i
theorem turn_U {P : Program} {w : World} {K : PySem.W.Frag} {elts : List Expr} {kk : Nat} {tpos : Pos} (a e it : Addr) :
    Turn P w K (.Tuple elts kk tpos) (ItU K a) [e, it] e (fun i h => (∃ old, IsEnum h e it ((i : Nat) : Int) old) ∧ h.IsTupleIter it a i ∧ e ≠ it ∧ a ≠ it) where
  mem := List.mem_cons_self
  obj := by
    intro i h st b hb
    obtain ⟨⟨old, he⟩, ⟨o, ho, hc, hd⟩, _⟩ := st
    rcases List.mem_cons.mp hb with rfl | hb
    · exact ⟨_, he, fun v q => nomatch q⟩
    · obtain rfl := List.mem_singleton.mp hb
      exact ⟨o, ho, fun v q => by rw [hd] at q; cases q⟩
  keep := by
    intro i h h' st kp
    obtain ⟨⟨old, he⟩, hi, hne, hna⟩ := st
    exact ⟨⟨old, kp e (by simp) _ he⟩, hi.at fun o q => kp it (by simp) o q, hne, hna⟩
  item := by
    intro X hP hw hK hc i pins s σ H E I hf st hg
    subst hP hw hK
    obtain ⟨⟨old, he⟩, hit, hne, hna⟩ := st
    obtain ⟨xs, x, hq, hx⟩ := hg
    obtain ⟨its, rv, tp, _⟩ := I.tuple hq
    obtain ⟨u, hu, ru⟩ := rv.get hx
    have tp' : s.heap.IsTuple a its.toArray := tp
    have hel : e < s.heap.objs.size := Heap.lt_size he
    have hil : it < s.heap.objs.size := by
      obtain ⟨_, q, _⟩ := hit
      exact Heap.lt_size q
    have hilt : i < its.toArray.size := by
      have z := (List.getElem?_eq_some_iff.mp hu).1
      simpa using z
    have hal : a ≠ e := fun z => by
      obtain ⟨o, q1, q2, _⟩ := tp'
      rw [z, he] at q1
      cases q1
      have q3 : Value.type "enumerate" = Value.type "tuple" := q2
      exact absurd (Value.type.inj q3) (by decide)
    refine wpAny_pyNext_enum_itemD (Draws.tuple (A := X.A.in1) (show X.A.in1.handled = none from I.ok.hd hc) it a hna its.toArray) he ⟨hit, tp'⟩ hilt hne (by simp [hne, Ne.symm hal]) fun y h' tk hy ho hst hT hsz hk => ?_
    obtain ⟨hit', _⟩ := hst
    have ey : y = u := by
      have z : its[i]? = some y := by simpa using hy
      rw [hu] at z
      exact (Option.some.inj z).symm
    subst ey
    refine ⟨_, rfl, wpAny_letOwnedTupleGo_enum (s := { s with heap := h', toks := tk + 1 }) ho fun h2 he2 sb => ?_⟩
    have hT2 : h2.get? s.heap.objs.size = some { cls := .type "tuple", data := .seq #[.int i tk, y] } := (sb.2 _ (Nat.ne_of_gt hel)).trans hT
    have new : ObjOk X.prog X.w (upd H s.heap.objs.size (.tup [.int (i : Nat), x])) h2 s.heap.objs.size (.tup [.int (i : Nat), x]) := by
      refine ⟨by show 2 ≤ sizeLine; decide, [.int i tk, y], ?_, ⟨_, hT2, rfl, _, rfl⟩⟩
      exact .cons ⟨_, rfl⟩ (.cons ru .nil)
    have I1 : Inv X pins σ (upd H s.heap.objs.size (.tup [.int (i : Nat), x])) { s with heap := h2, toks := tk + 1 } := by
      refine I.turnedNew (ch := [e, it]) (fun b ob hb q => ?_) hf (Nat.le_refl _) new
      have b1 : b ≠ e := fun z => hb (by simp [z])
      have b2 : b ≠ it := fun z => hb (by simp [z])
      exact (sb.2 b b1).trans (hk b ob b1 b2 q)
    refine ⟨.ref s.heap.objs.size, _, I1, rfl, ⟨_, x, rfl, I.hok.fresh (Nat.le_refl _), rfl, fun ys hy => ?_⟩, ⟨⟨y, ?_⟩, hit'.at fun o q => (sb.2 it (Ne.symm hne)).trans q, hne, hna⟩, fun b hb => ?_⟩
    · rw [I.tuple_inj hy hq]
      exact hx
    · have e1 : ((i + 1 : Nat) : Int) = (i : Int) + 1 := by omega
      rw [e1]
      exact he2
    · have hb' : b < s.heap.objs.size := by
        rcases List.mem_cons.mp hb with z | z
        · rw [z]
          exact hel
        · rw [List.mem_singleton.mp z]
          exact hil
      rw [upd_ne (Nat.ne_of_lt hb')]
      exact (hf b hb).1
  done := by
    intro X hP hw hK hc i pins s σ H E I hf st hg
    subst hP hw hK
    obtain ⟨⟨old, he⟩, hit, hne, hna⟩ := st
    obtain ⟨xs, hq, hx⟩ := hg
    obtain ⟨its, rv, tp, _⟩ := I.tuple hq
    obtain ⟨f0, f1, f2, f3, f4, f5⟩ := hf it (by simp)
    have hl : its.toArray.size = i := by
      rw [List.size_toArray, ← rv.length]
      exact hx
    refine wpAny_pyNext_enum_endD (Draws.tuple (A := X.A.in1) (show X.A.in1.handled = none from I.ok.hd hc) it a hna its.toArray) he ⟨?_, tp⟩ fun h' eb => ⟨rfl, I.turned (t' := s.toks) (fun b o hb q => eb b o hb q) f0 f1 f3 f4 f5⟩
    rw [hl]
    exact hit
  self := fun A i s Q E st q => by
    obtain ⟨⟨_, he⟩, _⟩ := st
    exact wpAny_pyIter_enum he q
def iEnumT (K : PySem.W.Frag) (ta : TA) : TI := fun σ H R => ta σ H fun vs H1 => ∃ (a : Addr) (xs : List V), vs = [.ref a] ∧ SqT K H1 a xs ∧ R (ItU K a) H1
set_option maxHeartbeats 2100000 in
theorem pi_enumT {X : Cx} {e : Expr} {ta : TA} {p pos tpos : Pos} {elts : List Expr} {kk : Nat} (hg : Gl X "enumerate") (hm : X.mg "enumerate" = none) (ha : PA X [e] ta) (hs : starEach [e] X.env = [(false, eval e X.env)] := by rfl) :
    PI X (.Tuple elts kk tpos) (.Call (.Name "enumerate" p) [e] [] pos) (iEnumT X.K ta) := by
  constructor
  intro pins s σ H R I hw
  refine Call_ (ld_blt I hg hm boot_enumerate (PyProof.Rows.callWith_type1 (thn (ha.run pos pins s σ H _ I hw) fun us s1 ⟨vs, H1, I1, r1, q1⟩ => ?_) hs rfl))
  obtain ⟨a, xs, rfl, hq, q⟩ := q1
  cases r1 with
  | cons r rr =>
    cases rr
    cases r
    obtain ⟨its, rv, tp, _⟩ := I1.tuple hq
    obtain ⟨ot, q1, q2, q3⟩ := id tp
    refine enu_call (begins_tuple a its.toArray) (show s1.heap.IsTuple a its.toArray from tp) fun h2 he hit hk => wpAny_pyIter_enum he ?_
    have I2 : Inv X pins σ H1 { s1 with heap := h2 } := I1.kept (t' := s1.toks) hk
    have hna : a ≠ s1.heap.objs.size := Nat.ne_of_lt (Heap.lt_size q1)
    refine ⟨s1.heap.objs.size + 1, [s1.heap.objs.size + 1, s1.heap.objs.size], _, _, H1, rfl, I2, turn_U a (s1.heap.objs.size + 1) s1.heap.objs.size, ⟨⟨.none, he⟩, ⟨_, hit, rfl, rfl⟩, Nat.succ_ne_self _, hna⟩, fun b hb => ?_, q⟩
    have hle : s1.heap.objs.size ≤ b := by
      rcases List.mem_cons.mp hb with z | z
      · rw [z]
        exact Nat.le_succ _
      · rw [List.mem_singleton.mp z]
        exact Nat.le_refl _
    exact I1.fpOk hle (I1.hok.fresh hle)
/-- a loop over any walk: an invariant by turns -/
theorem walk_enumT {K : PySem.W.Frag} {a : Addr} {xs : List V} : Walk (ItU K a) xs.length (fun H => SqT K H a xs) (YPair (fun i => some (.int (i : Nat))) (fun i => xs[i]?)) where
  goes := by
    intro i H hi hg
    exact ⟨xs, xs[i], hg, by simp [hi]⟩
  stops := by
    intro H hg
    exact ⟨xs, hg, rfl⟩
  yields := by
    intro i H v H' hi hg hy
    obtain ⟨T, x, ev, hT, eH, hx⟩ := hy
    exact ⟨T, _, x, ev, hT, eH, rfl, hx xs hg⟩
/-- enumerate of a list or of a tuple -/
structure EnA (K : PySem.W.Frag) (ta : TA) (σ : L2.St) (H : Hp) (R : It → Hp → Prop) : Prop where
  or : iEnum K ta σ H R ∨ iEnumT K ta σ H R
theorem pi_enumA {X : Cx} {e : Expr} {ta : TA} {p pos tpos : Pos} {elts : List Expr} {kk : Nat} (hg : Gl X "enumerate") (hm : X.mg "enumerate" = none) (ha : PA X [e] ta) (hs : starEach [e] X.env = [(false, eval e X.env)] := by rfl) :
    PI X (.Tuple elts kk tpos) (.Call (.Name "enumerate" p) [e] [] pos) (EnA X.K ta) :=
  ⟨fun pins s σ H R I h => h.or.elim (fun q => (pi_enum hg hm ha hs).run pins s σ H R I q) (fun q => (pi_enumT hg hm ha hs).run pins s σ H R I q)⟩
/-- what a for asks of the walk J -/
def forR (g : TG) (tb : TS) (D : Ends) (σ : L2.St) (J : It) (H1 : Hp) : Prop := ∃ W : Nat → Nat → L2.St → Hp → Prop, (∃ m, W 0 m σ H1) ∧ ∀ i m σ H, W i m σ H →
  (J.stop i H ∧ D.nx σ H) ∨ (J.go i H ∧ ∃ N : L2.St → Hp → Prop, (∀ σ' H', N σ' H' → ∃ m', m' < m ∧ W (i + 1) m' σ' H') ∧ ∀ x H', J.yld i H x H' → g x σ H' fun σ2 H2 => tb { D with nx := N, ct := N, bk := D.nx } σ2 H2)
theorem for_enumA {K : PySem.W.Frag} {i0 : Nat} {a : Addr} {xs : List V} {g : TG} {tb : TS} {D : Ends} {σ : L2.St} {H : Hp} (hq : SqL K H a xs ∨ SqT K H a xs) (Pv : Nat → L2.St → Hp → Prop) (h0 : Pv 0 σ H)
    (hG : ∀ i σ H', Pv i σ H' → Same H H')
    (hs : ∀ i x T σ H', xs[i]? = some x → Pv i σ H' → H' T = none → g (.ref T) σ (upd H' T (.tup [.int (i : Nat), x])) fun σ2 H2 => tb { D with nx := Pv (i + 1), ct := Pv (i + 1), bk := D.nx } σ2 H2)
    (hd : ∀ σ H', Pv xs.length σ H' → D.nx σ H') :
    σ[i0]? = some (some (V.ref a)) → EnA K (tCons (tVar i0) tNil) σ H (fun J H1 => forR g tb D σ J H1) := by
  intro e0
  refine ⟨?_⟩
  rcases hq with hq | hq
  · refine .inl ⟨_, e0, a, xs, rfl, hq, for_it (walk_enum (K := K) (a := a) (xs := xs)) Pv h0 (fun i σ H' _ p => (hG i σ H' p).seq hq) (fun i v σ H1 H2 hi p y => ?_) hd⟩
    obtain ⟨T, x, y, rfl, hT, rfl, e1, e2⟩ := y
    cases e1
    exact hs i y T σ H1 e2 p hT
  · refine .inr ⟨_, e0, a, xs, rfl, hq, for_it (walk_enumT (K := K) (a := a) (xs := xs)) Pv h0 (fun i σ H' _ p => by
      rcases hq with (h | ⟨o, h⟩) | h
      · exact .inl (.inl (hG i σ H' p _ _ h))
      · exact .inl (.inr ⟨o, hG i σ H' p _ _ h⟩)
      · exact .inr h) (fun i v σ H1 H2 hi p y => ?_) hd⟩
    obtain ⟨T, x, y, rfl, hT, rfl, e1, e2⟩ := y
    cases e1
    exact hs i y T σ H1 e2 p hT
end Z

set_option Elab.async false
set_option linter.all false
set_option maxRecDepth 100000
namespace Z
open PySem L2
theorem same_mut {H H' : Hp} {p : Addr} {o : HO} (e : Same H H') (h : H p = none) : Same H (upd H' p o) := fun a u ha => by
  rw [upd_ne (ne_of_none ha h)]
  exact e a u ha
theorem ne_of_none' {H : Hp} {a b : Addr} {o : HO} (h : H a = some o) (h' : H b = none) : b ≠ a := (ne_of_none h h').symm
/-! ### a walk of a list or of a tuple; an unpacking of either -/
structure ItA (K : PySem.W.Frag) (tl : TE) (σ : L2.St) (H : Hp) (R : It → Hp → Prop) : Prop where
  or : iList K tl σ H R ∨ iTup K tl σ H R
theorem pi_seqA {X : Cx} {tg l : Expr} {tl : TE} (hl : PE X l tl) : PI X tg l (ItA X.K tl) :=
  ⟨fun pins s σ H R I h => h.or.elim (fun q => (pi_list hl).run pins s σ H R I q) (fun q => (pi_tup hl).run pins s σ H R I q)⟩
theorem for_seqA {K : PySem.W.Frag} {i0 : Nat} {a : Addr} {xs : List V} {g : TG} {tb : TS} {D : Ends} {σ : L2.St} {H H0 : Hp} (hq : SqL K H0 a xs ∨ SqT K H0 a xs) (Pv : Nat → L2.St → Hp → Prop) (h0 : Pv 0 σ H)
    (hG : ∀ i σ H', Pv i σ H' → Same H0 H')
    (hs : ∀ i x σ H', xs[i]? = some x → Pv i σ H' → g x σ H' fun σ2 H2 => tb { D with nx := Pv (i + 1), ct := Pv (i + 1), bk := D.nx } σ2 H2)
    (hd : ∀ σ H', Pv xs.length σ H' → D.nx σ H') :
    σ[i0]? = some (some (V.ref a)) → ItA K (tVar i0) σ H (fun J H1 => forR g tb D σ J H1) := by
  intro e0
  refine ⟨?_⟩
  rcases hq with hq | hq
  · exact .inl ⟨_, e0, a, rfl, ⟨xs, (hG 0 σ H h0).seq hq⟩, for_it (walk_list (K := K) (a := a) (xs := xs)) Pv h0 (fun i σ H' _ p => (hG i σ H' p).seq hq) (fun i v σ H1 H2 hi p y => by
      obtain ⟨rfl, e⟩ := y
      exact hs i v σ _ e p) hd⟩
  · exact .inr ⟨_, e0, a, rfl, ⟨xs, Same.sqT (hG 0 σ H h0) hq⟩, for_it (walk_tup (K := K) (a := a) (xs := xs)) Pv h0 (fun i σ H' _ p => Same.sqT (hG i σ H' p) hq) (fun i v σ H1 H2 hi p y => by
      obtain ⟨rfl, e⟩ := y
      exact hs i v σ _ e p) hd⟩
structure GuA (K : PySem.W.Frag) (n : Nat) (t : TGs) (v : V) (σ : L2.St) (H : Hp) (Q : L2.St → Hp → Prop) : Prop where
  or : gTup K n t v σ H Q ∨ gUnl K n t v σ H Q
theorem pg_unA {X : Cx} {es : List Expr} {k : Nat} {t : TGs} {n : Nat} {pos : Pos} (hc : X.calm = true) (h : PGs X es t)
    (hn : (assignEach es X.env).length = n := by rfl) (hst : (assignEach es X.env).findIdx? (·.1) = none := by rfl) : PG X (.Tuple es k pos) (GuA X.K n t) :=
  ⟨fun pins s σ H v u Q I r hw => hw.or.elim (fun q => (pg_tup hc h hn hst).run pins s σ H v u Q I r q) (fun q => (pg_unl hc h hn hst).run pins s σ H v u Q I r q)⟩
theorem ixN_nat {n y : Nat} (h : y < n) : ixN n (y : Int) = some y := by
  unfold ixN
  rw [if_pos (by omega), if_pos (by omega)]
  simp
/-! ### a square of truth values -/
def rowV (n : Nat) (f : Nat → Bool) : List V := (List.range n).map fun y => V.bl (f y)
theorem rowV_len {n : Nat} {f : Nat → Bool} : (rowV n f).length = n := by simp [rowV]
theorem rowV_get {n y : Nat} {f : Nat → Bool} (h : y < n) : (rowV n f)[y]? = some (.bl (f y)) := by simp [rowV, h]
theorem rowV_at {n y : Nat} {f : Nat → Bool} (h : y < n) : atI (rowV n f) (y : Int) = some (.bl (f y)) := atI_nat (rowV_get h)
theorem rowV_congr {n : Nat} {f g : Nat → Bool} (h : ∀ y, y < n → f y = g y) : rowV n f = rowV n g := by
  unfold rowV
  refine List.map_congr_left fun y hy => ?_
  rw [h y (List.mem_range.mp hy)]
theorem rowV_set {n y : Nat} {f : Nat → Bool} {b : Bool} (h : y < n) : (rowV n f).set y (.bl b) = rowV n (fun z => if z = y then b else f z) := by
  refine List.ext_getElem? fun z => ?_
  by_cases hz : z < n
  · rw [rowV_get hz]
    by_cases e : z = y
    · subst e
      rw [List.getElem?_set_self (by rw [rowV_len]; exact hz), if_pos rfl]
    · rw [List.getElem?_set_ne (Ne.symm e), rowV_get hz, if_neg e]
  · have h1 : (rowV n f).length ≤ z := by rw [rowV_len]; omega
    have h2 : (rowV n (fun z => if z = y then b else f z)).length ≤ z := by rw [rowV_len]; omega
    rw [List.getElem?_eq_none (by rw [List.length_set]; exact h1), List.getElem?_eq_none h2]
theorem rowV_rep {n : Nat} : (List.replicate n [V.bl false]).flatten = rowV n (fun _ => false) := by
  unfold rowV
  induction n with
  | zero => rfl
  | succ n ih =>
    rw [List.replicate_succ, List.flatten_cons, ih, List.range_succ_eq_map, List.map_cons, List.map_map]
    rfl
theorem rowV_snoc {n : Nat} {f : Nat → Bool} : rowV n f ++ [.bl (f n)] = rowV (n + 1) f := by
  unfold rowV
  rw [List.range_succ, List.map_append]
  rfl
structure MatAt (H : Hp) (p : Addr) (n : Nat) (M : Nat → Nat → Bool) (rs : List Addr) : Prop where
  top : H p = some (.lst (rs.map V.ref))
  len : rs.length = n
  row : ∀ x r, rs[x]? = some r → H r = some (.lst (rowV n (M x)))
  nd : rs.Nodup
  np : p ∉ rs
theorem MatAt.same {H H' : Hp} {p : Addr} {n : Nat} {M : Nat → Nat → Bool} {rs : List Addr} (m : MatAt H p n M rs) (s : Same H H') : MatAt H' p n M rs :=
  ⟨s _ _ m.top, m.len, fun x r e => s _ _ (m.row x r e), m.nd, m.np⟩
theorem MatAt.get {H : Hp} {p : Addr} {n : Nat} {M : Nat → Nat → Bool} {rs : List Addr} (m : MatAt H p n M rs) {x : Nat} (hx : x < n) : ∃ r, rs[x]? = some r ∧ atI (rs.map V.ref) (x : Int) = some (.ref r) ∧ H r = some (.lst (rowV n (M x))) := by
  have hl : x < rs.length := by rw [m.len]; exact hx
  have e : rs[x]? = some rs[x] := by simp [hl]
  exact ⟨rs[x], e, atI_nat (by rw [List.getElem?_map, e]; rfl), m.row x _ e⟩
theorem nodup_ix2 {l : List Addr} (nd : l.Nodup) {i j : Nat} {r : Addr} (h1 : l[i]? = some r) (h2 : l[j]? = some r) : i = j := by
  obtain ⟨a, e1⟩ := List.getElem?_eq_some_iff.mp h1
  obtain ⟨b, e2⟩ := List.getElem?_eq_some_iff.mp h2
  exact (List.getElem_inj nd).mp (e1.trans e2.symm)
theorem MatAt.congr {H : Hp} {p : Addr} {n : Nat} {M M' : Nat → Nat → Bool} {rs : List Addr} (m : MatAt H p n M rs) (h : ∀ x y, x < n → y < n → M x y = M' x y) : MatAt H p n M' rs :=
  ⟨m.top, m.len, fun x r e => by
    have hx : x < n := by
      have := (List.getElem?_eq_some_iff.mp e).1
      rw [m.len] at this
      exact this
    rw [m.row x r e, rowV_congr fun y hy => h x y hx hy], m.nd, m.np⟩
def setM (M : Nat → Nat → Bool) (x y : Nat) (b : Bool) : Nat → Nat → Bool := fun a c => if a = x then (if c = y then b else M x c) else M a c
theorem MatAt.put {H : Hp} {p : Addr} {n : Nat} {M : Nat → Nat → Bool} {rs : List Addr} (m : MatAt H p n M rs) {x y : Nat} {r : Addr} {b : Bool} (hr : rs[x]? = some r) (hy : y < n) : MatAt (upd H r (.lst ((rowV n (M x)).set y (.bl b)))) p n (setM M x y b) rs := by
  have hm : r ∈ rs := List.mem_of_getElem? hr
  refine ⟨?_, m.len, fun a r' e => ?_, m.nd, m.np⟩
  · rw [upd_ne (fun z => m.np (by rw [z]; exact hm))]
    exact m.top
  · by_cases ha : a = x
    · subst ha
      rw [e] at hr
      cases hr
      rw [upd_same, rowV_set hy]
      refine congrArg (fun l => some (HO.lst l)) (rowV_congr fun c _ => ?_)
      unfold setM
      rw [if_pos rfl]
    · have ne : r' ≠ r := fun z => ha (nodup_ix2 m.nd e (z ▸ hr))
      rw [upd_ne ne, m.row a r' e]
      refine congrArg (fun l => some (HO.lst l)) (rowV_congr fun c _ => ?_)
      unfold setM
      rw [if_neg ha]
theorem MatAt.swap {H : Hp} {p D : Addr} {n : Nat} {M : Nat → Nat → Bool} {rs : List Addr} (m : MatAt H p n M rs) {x : Nat} {f : Nat → Bool} (hD : H D = some (.lst (rowV n f))) (nD : D ∉ rs) (np : D ≠ p) :
    MatAt (upd H p (.lst ((rs.map V.ref).set x (.ref D)))) p n (fun a => if a = x then f else M a) (rs.set x D) := by
  refine ⟨?_, by rw [List.length_set]; exact m.len, fun a r e => ?_, ?_, ?_⟩
  · rw [upd_same, List.map_set]
  · have hr : r ≠ p := by
      intro z
      have hm := List.mem_of_getElem? e
      rcases List.mem_or_eq_of_mem_set hm with h | h
      · exact m.np (z ▸ h)
      · exact np (h ▸ z)
    rw [upd_ne hr]
    by_cases ha : a = x
    · subst ha
      have hl : a < rs.length := by
        have := (List.getElem?_eq_some_iff.mp e).1
        rw [List.length_set] at this
        exact this
      rw [List.getElem?_set_self hl] at e
      cases e
      rw [if_pos rfl]
      exact hD
    · rw [List.getElem?_set_ne (Ne.symm ha)] at e
      rw [if_neg ha]
      exact m.row a r e
  · by_cases hl : x < rs.length
    · refine List.pairwise_iff_getElem.mpr fun i j hi hj hij => ?_
      rw [List.getElem_set, List.getElem_set]
      rw [List.length_set] at hi hj
      have nd := List.pairwise_iff_getElem.mp m.nd i j hi hj hij
      by_cases e1 : x = i
      · rw [if_pos e1, if_neg (by omega)]
        intro z
        exact nD (z ▸ List.getElem_mem hj)
      · rw [if_neg e1]
        by_cases e2 : x = j
        · rw [if_pos e2]
          intro z
          exact nD (z ▸ List.getElem_mem hi)
        · rw [if_neg e2]
          exact nd
    · rw [List.set_eq_of_length_le (by omega)]
      exact m.nd
  · intro z
    rcases List.mem_or_eq_of_mem_set z with h | h
    · exact m.np h
    · exact np h.symm
/-! ### the closing of a relation -/
def relax (M : Nat → Nat → Bool) (mid low : Nat) : Nat → Nat → Bool := if M low mid then (fun a => if a = low then (fun b => M low b || M mid b) else M a) else M
def relaxes (M : Nat → Nat → Bool) (mid : Nat) : Nat → (Nat → Nat → Bool)
  | 0 => M
  | k + 1 => relax (relaxes M mid k) mid k
def closeM (n : Nat) (M : Nat → Nat → Bool) : Nat → (Nat → Nat → Bool)
  | 0 => M
  | k + 1 => relaxes (closeM n M k) k n
def prOf (d : PyData) : Nat × Nat :=
  match seqOf d with
  | some [.int a, .int b] => (a.toNat, b.toNat)
  | _ => (0, 0)
def initM (prs : List (Nat × Nat)) : Nat → Nat → Bool := fun a b => decide ((a, b) ∈ prs)
theorem initM_snoc {prs : List (Nat × Nat)} {x y : Nat} : setM (initM prs) x y true = initM (prs ++ [(x, y)]) := by
  funext a b
  unfold setM initM
  by_cases ha : a = x
  · subst ha
    by_cases hb : b = y
    · subst hb
      simp
    · simp [hb]
  · simp [ha]
theorem couple_ok {d : PyData} {hi : Int} (h : couple d hi = true) : ∃ a b : Nat, seqOf d = some [.int a, .int b] ∧ prOf d = (a, b) ∧ (a : Int) ≤ hi ∧ (b : Int) ≤ hi := by
  unfold couple at h
  cases hs : seqOf d with
  | none =>
    rw [hs] at h
    cases h
  | some l =>
    rw [hs] at h
    match l, h with
    | [u, v], h =>
      have h' : (whole u (some 0) (some hi) && whole v (some 0) (some hi)) = true := h
      rw [Bool.and_eq_true] at h'
      obtain ⟨h1, h2⟩ := h'
      cases u with
      | int i =>
        cases v with
        | int j =>
          simp only [whole, Bool.and_eq_true, decide_eq_true_eq] at h1 h2
          have ei : ((i.toNat : Nat) : Int) = i := by omega
          have ej : ((j.toNat : Nat) : Int) = j := by omega
          refine ⟨i.toNat, j.toNat, by rw [ei, ej], ?_, by omega, by omega⟩
          unfold prOf
          rw [hs]
        | _ => cases h2
      | _ => cases h1
end Z

set_option Elab.async false
set_option linter.all false
set_option maxRecDepth 100000
namespace Z
open PySem L2
/-! ### the rules by the written part's own name, so that they stand in a comprehension's block too -/
section
variable {X : Cx}
theorem kix_list (K : PySem.W.Frag) (h : X.K = K := by rfl) : IxR X (rIxL K) := by
  rw [← h]
  exact ix_list
theorem kix_tup (K : PySem.W.Frag) (h : X.K = K := by rfl) : IxR X (rIxT K) := by
  rw [← h]
  exact ix_tup
theorem kix_seq (K : PySem.W.Frag) (h : X.K = K := by rfl) : IxR X (rIx K) := by
  rw [← h]
  exact ix_seq
def rLenQ (K : PySem.W.Frag) : List V → Hp → VK → Prop := fun xs H Q => ∃ p ys, xs = [.ref p] ∧ (SqL K H p ys ∨ SqT K H p ys) ∧ Q (.int ys.length) H
theorem klen (K : PySem.W.Frag) (h : X.K = K := by rfl) : CallR X (.builtin "len") (rLenQ K) := by
  rw [← h]
  exact call_len_seq
def rListQ (K : PySem.W.Frag) : List V → Hp → VK → Prop := fun xs H Q => ∃ p ys, xs = [.ref p] ∧ (SqL K H p ys ∨ SqT K H p ys) ∧ ∀ l, H l = none → Q (.ref l) (upd H l (.lst ys))
theorem klist_of (K : PySem.W.Frag) (h : X.K = K := by rfl) : CallR X (.type "list") (rListQ K) := by
  rw [← h]
  exact call_list_of
def rTupQ (K : PySem.W.Frag) : List V → Hp → VK → Prop := fun xs H Q => ∃ p ys, xs = [.ref p] ∧ ((SqL K H p ys ∧ ∀ l, H l = none → Q (.ref l) (upd H l (.tup ys))) ∨ (SqT K H p ys ∧ Q (.ref p) H))
theorem ktuple_of (K : PySem.W.Frag) (h : X.K = K := by rfl) : CallR X (.type "tuple") (rTupQ K) := by
  rw [← h]
  exact call_tuple_of
theorem kin_seq (K : PySem.W.Frag) (h : X.K = K := by rfl) : OpR X (compareOp .In) (rIn K false) := by
  rw [← h]
  exact op_in_seq
theorem knotin_seq (K : PySem.W.Frag) (h : X.K = K := by rfl) : OpR X (compareOp .NotIn) (rIn K true) := by
  rw [← h]
  exact op_notIn_seq
theorem kisi (K : PySem.W.Frag) (h : X.K = K := by rfl) : CallR X (.builtin "isinstance") (rIsi K) := by
  rw [← h]
  exact call_isi
theorem kisiT (K : PySem.W.Frag) (h : X.K = K := by rfl) : CallR X (.builtin "isinstance") (rIsiT K) := by
  rw [← h]
  exact call_isiT
theorem kany (K : PySem.W.Frag) (hc : X.calm = true) (h : X.K = K := by rfl) : CallR X (.builtin "any") (rAny K) := by
  rw [← h]
  exact cr_any hc
theorem kcatT (K : PySem.W.Frag) (h : X.K = K := by rfl) : OpR X (binaryOp .Add) (rCatA K) := by
  rw [← h]
  exact op_catA
theorem ksl_list (K : PySem.W.Frag) (h : X.K = K := by rfl) : L2.SlR X (rSlL K) := by
  rw [← h]
  exact sl_list
theorem ksl_tup (K : PySem.W.Frag) (h : X.K = K := by rfl) : L2.SlR X (rSlA K) := by
  rw [← h]
  exact sl_tupA
theorem keqD (K : PySem.W.Frag) (hu : X.A.units + 64 < cLine) (h : X.K = K := by rfl) : OpR X (compareOp .Eq) (rEqD K) := by
  rw [← h]
  exact op_eqD hu
theorem kneD (K : PySem.W.Frag) (hu : X.A.units + 64 < cLine) (h : X.K = K := by rfl) : OpR X (compareOp .NotEq) (rNeD K) := by
  rw [← h]
  exact op_neD hu
def tTruQ (K : PySem.W.Frag) (ta : TE) : TT := fun σ H Q => ta σ H fun x H' => ∃ k, TruV K x H' k ∧ Q k H'
theorem kt_truth (K : PySem.W.Frag) {a : Expr} {ta : TE} (ha : PE X a ta) (he : ∀ whole, isTrue a X.env whole = (do let v ← whole; standAt a.pos; holding [v] (truthy v))) (h : X.K = K := by rfl) : PT X a (tTruQ K ta) := by
  rw [← h]
  exact pt_truth ha he
theorem kpi_list (K : PySem.W.Frag) {tg l : Expr} {tl : TE} (hl : PE X l tl) (h : X.K = K := by rfl) : PI X tg l (iList K tl) := by
  rw [← h]
  exact pi_list hl
theorem kpi_tup (K : PySem.W.Frag) {tg l : Expr} {tl : TE} (hl : PE X l tl) (h : X.K = K := by rfl) : PI X tg l (iTup K tl) := by
  rw [← h]
  exact pi_tup hl
theorem kpi_seqA (K : PySem.W.Frag) {tg l : Expr} {tl : TE} (hl : PE X l tl) (h : X.K = K := by rfl) : PI X tg l (ItA K tl) := by
  rw [← h]
  exact pi_seqA hl
theorem kfld (K : PySem.W.Frag) {e : Expr} {ta : TE} {f : Str} {pos : Pos} (he : PE X e ta) (hb : attributeBase e f X.env (eval e X.env) = eval e X.env) (h : X.K = K := by rfl) : PE X (.Attribute e f pos) (tFld K ta f) := by
  rw [← h]
  exact pe_fld he hb
end
end Z

set_option Elab.async false
set_option linter.all false
set_option maxRecDepth 100000
namespace Z
open PySem L2
/-- the numbers below n that p keeps -/
def fl (n : Nat) (p : Nat → Bool) : List Nat := (List.range n).filter p
def natsV (l : List Nat) : List V := l.map fun (y : Nat) => V.int (y : Int)
theorem natsV_len {l : List Nat} : (natsV l).length = l.length := by simp [natsV]
theorem natsV_get {l : List Nat} {i y : Nat} (h : l[i]? = some y) : (natsV l)[i]? = some (.int (y : Int)) := by simp [natsV, h]
theorem natsV_range {n i : Nat} {x : V} (h : (natsV (List.range n))[i]? = some x) : i < n ∧ x = .int (i : Int) := by
  unfold natsV at h
  rw [List.getElem?_map] at h
  by_cases hi : i < n
  · rw [List.getElem?_range hi] at h
    exact ⟨hi, (Option.some.inj h).symm⟩
  · rw [List.getElem?_eq_none (by simpa using hi)] at h
    cases h
theorem ints_range' {n i : Nat} {x : V} (h : (natsV (List.range n))[i]? = some x) : i < n ∧ x = .int (i : Int) := natsV_range h
theorem fl_le {n : Nat} {p : Nat → Bool} : (fl n p).length ≤ n := by
  have h := List.length_filter_le p (List.range n)
  rw [List.length_range] at h
  exact h
theorem fl_succ {n : Nat} {p : Nat → Bool} : fl (n + 1) p = if p n then fl n p ++ [n] else fl n p := by
  unfold fl
  rw [List.range_succ, List.filter_append]
  by_cases h : p n = true
  · rw [if_pos h, List.filter_cons_of_pos h, List.filter_nil]
  · rw [if_neg h, List.filter_cons_of_neg h, List.filter_nil, List.append_nil]
theorem natsV_snoc {l : List Nat} {y : Nat} : natsV l ++ [.int (y : Int)] = natsV (l ++ [y]) := by simp [natsV]
theorem if_true_of' {A B : Prop} (h : A) : if true = true then A else B := by
  rw [if_pos rfl]
  exact h
section
variable {K : PySem.W.Frag} {st D : Addr} {n i : Nat} {vs : List Nat} {σ : L2.St} {H1 : Hp} {Qd : Hp → Prop}
/-- [y for y in states if t(y)]: the test may make objects -/
theorem lc_filt {tt : TT} {p : Nat → Bool} (hn : n ≤ 600) (hst : SqL K H1 st (natsV (List.range n))) (hD : H1 D = none)
    (hw : ∀ y, wipe ((wipe σ vs).set i (some y)) vs = wipe σ vs) (hi : ((wipe σ vs).set i (some V.non))[i]? = some (some V.non))
    (ht : ∀ y H' Qb, y < n → Same H1 H' → (∀ H2, Same H' H2 → Qb (p y) H2) → tt ((wipe σ vs).set i (some (.int (y : Nat)))) H' Qb)
    (hd : ∀ H', Same H1 H' → H' D = some (.lst (natsV (fl n p))) → Qd H') :
    ∃ W : Nat → Nat → Hp → Prop, (∃ m, W 0 m (upd H1 D (.lst []))) ∧ ∀ j m H, W j m H →
      ((Itl K st).stop j H ∧ Qd H) ∨ ((Itl K st).go j H ∧ ∃ Nx : Hp → Prop, (∀ H', Nx H' → ∃ m', m' < m ∧ W (j + 1) m' H') ∧ ∀ x H', (Itl K st).yld j H x H' → gName i x (wipe σ vs) H' fun σ2 H2 => wipe σ2 vs = wipe σ vs ∧ tt σ2 H2 fun b H3 =>
        if b = true then tVar i σ2 H3 fun y H4 => ∃ acc, H4 D = some (.lst acc) ∧ acc.length < sizeLine ∧ Nx (upd H4 D (.lst (acc ++ [y]))) else Nx H3) := by
  have hil : i < (wipe σ vs).length := by
    by_cases h : i < (wipe σ vs).length
    · exact h
    · rw [List.getElem?_eq_none (by rw [List.length_set]; omega)] at hi
      cases hi
  refine lc_list (K := K) (a := st) (xs := natsV (List.range n)) (fun j H' => Same H1 H' ∧ H' D = some (.lst (natsV (fl j p)))) ⟨same_new hD, upd_same⟩ (fun j H' _ q => q.1.seq hst) ?_ ?_
  · rintro j x H' hx ⟨s1, e1⟩
    obtain ⟨hj, rfl⟩ := natsV_range hx
    refine ⟨hw _, ht j H' _ hj s1 fun H2 s2 => ?_⟩
    have e2 := s2 _ _ e1
    by_cases c : p j = true
    · rw [if_pos c]
      refine ⟨_, List.getElem?_set_self hil, _, e2, small1000 (by rw [natsV_len]; have := fl_le (n := j) (p := p); omega), same_mut (s1.trans s2) hD, ?_⟩
      rw [upd_same, natsV_snoc, fl_succ, if_pos c]
    · rw [if_neg c]
      refine ⟨s1.trans s2, ?_⟩
      rw [e2, fl_succ, if_neg c]
  · rintro H' ⟨s1, e1⟩
    have ln : (natsV (List.range n)).length = n := by rw [natsV_len, List.length_range]
    rw [ln] at e1
    exact hd H' s1 e1
/-- tuples of numbers at the places rs -/
def TupsAt (H : Hp) (rs : List Addr) (f : Nat → List Nat) : Prop := ∀ x r, rs[x]? = some r → H r = some (.tup (natsV (f x)))
theorem TupsAt.same {H H' : Hp} {rs : List Addr} {f : Nat → List Nat} (t : TupsAt H rs f) (s : Same H H') : TupsAt H' rs f := fun x r e => s _ _ (t x r e)
/-- [tuple(..) for x in states] -/
theorem lc_tups {te : TE} {f : Nat → List Nat} (hn : n ≤ 600) (hst : SqL K H1 st (natsV (List.range n))) (hD : H1 D = none)
    (hw : ∀ y, wipe ((wipe σ vs).set i (some y)) vs = wipe σ vs)
    (he : ∀ x H' Q, x < n → Same H1 H' → (∀ r H2, Same H' H2 → H' r = none → H2 r = some (.tup (natsV (f x))) → Q (.ref r) H2) → te ((wipe σ vs).set i (some (.int (x : Nat)))) H' Q)
    (hd : ∀ rs H', Same H1 H' → rs.length = n → H' D = some (.lst (rs.map V.ref)) → TupsAt H' rs f → Qd H') :
    ∃ W : Nat → Nat → Hp → Prop, (∃ m, W 0 m (upd H1 D (.lst []))) ∧ ∀ j m H, W j m H →
      ((Itl K st).stop j H ∧ Qd H) ∨ ((Itl K st).go j H ∧ ∃ Nx : Hp → Prop, (∀ H', Nx H' → ∃ m', m' < m ∧ W (j + 1) m' H') ∧ ∀ x H', (Itl K st).yld j H x H' → gName i x (wipe σ vs) H' fun σ2 H2 => wipe σ2 vs = wipe σ vs ∧ tYes σ2 H2 fun b H3 =>
        if b = true then te σ2 H3 fun y H4 => ∃ acc, H4 D = some (.lst acc) ∧ acc.length < sizeLine ∧ Nx (upd H4 D (.lst (acc ++ [y]))) else Nx H3) := by
  refine lc_list (K := K) (a := st) (xs := natsV (List.range n)) (fun j H' => ∃ rs : List Addr, Same H1 H' ∧ rs.length = j ∧ H' D = some (.lst (rs.map V.ref)) ∧ TupsAt H' rs f) ⟨[], same_new hD, rfl, upd_same, fun x r e => by simp at e⟩ (fun j H' _ q => by
    obtain ⟨rs, s1, _⟩ := q
    exact s1.seq hst) ?_ ?_
  · rintro j x H' hx ⟨rs, s1, el, e1, t1⟩
    obtain ⟨hj, rfl⟩ := natsV_range hx
    refine ⟨hw _, ?_⟩
    refine he j H' _ hj s1 fun r H2 s2 hr e2 => ⟨rs.map V.ref, s2 _ _ e1, small1000 (by rw [List.length_map]; omega), rs ++ [r], same_mut (s1.trans s2) hD, by simp [el], ?_, ?_⟩
    · rw [upd_same, List.map_append]
      rfl
    · intro x r' e
      have nD : r' ≠ D := by
        rintro rfl
        by_cases hx : x < rs.length
        · rw [List.getElem?_append_left hx] at e
          have q := t1 x _ e
          rw [e1] at q
          cases q
        · rw [List.getElem?_append_right (by omega)] at e
          cases hz : x - rs.length with
          | zero =>
            rw [hz] at e
            cases e
            rw [s2 _ _ e1] at e2
            cases e2
          | succ z =>
            rw [hz] at e
            simp at e
      rw [upd_ne nD]
      by_cases hx : x < rs.length
      · rw [List.getElem?_append_left hx] at e
        exact s2 _ _ (t1 x _ e)
      · rw [List.getElem?_append_right (by omega)] at e
        cases hz : x - rs.length with
        | zero =>
          rw [hz] at e
          cases e
          have ex : x = j := by omega
          rw [ex]
          exact e2
        | succ z =>
          rw [hz] at e
          simp at e
  · rintro H' ⟨rs, s1, el, e1, t1⟩
    have ln : (natsV (List.range n)).length = n := by rw [natsV_len, List.length_range]
    rw [ln] at el
    exact hd rs H' s1 el e1 t1
end
section
variable {K : PySem.W.Frag} {st : Addr} {n i j : Nat} {vi vj : List Nat} {σ : L2.St} {H1 : Hp} {Q : VK}
/-- tuple([tuple([y for y in states if t(x, y)]) for x in states]) -/
theorem te_tups {tt : TT} {p : Nat → Nat → Bool} (hn : n ≤ 600) (hst : SqL K H1 st (natsV (List.range n))) (e4 : σ[4]? = some (some (.ref st)))
    (w1 : ∀ y, wipe ((wipe σ vi).set i (some y)) vi = wipe σ vi)
    (w2 : ∀ x y, wipe ((wipe ((wipe σ vi).set i (some x)) vj).set j (some y)) vj = wipe ((wipe σ vi).set i (some x)) vj)
    (w3 : ∀ x, ((wipe σ vi).set i (some x))[4]? = some (some (.ref st)))
    (w4 : ∀ x, ((wipe ((wipe σ vi).set i (some x)) vj).set j (some V.non))[j]? = some (some V.non))
    (ht : ∀ x y H' Qb, x < n → y < n → Same H1 H' → (∀ H2, Same H' H2 → Qb (p x y) H2) → tt ((wipe ((wipe σ vi).set i (some (.int (x : Nat)))) vj).set j (some (.int (y : Nat)))) H' Qb)
    (k : ∀ P rs H', Same H1 H' → H1 P = none → rs.length = n → H' P = some (.tup (rs.map V.ref)) → TupsAt H' rs (fun x => fl n (p x)) → Q (.ref P) H') :
    tCB (rTupQ K) (tCons (tLc (iList K (tVar 4)) (gName i) tYes (tCB (rTupQ K) (tCons (tLc (iList K (tVar 4)) (gName j) tt (tVar j) vj) tNil)) vi) tNil) σ H1 Q := by
  refine ⟨_, e4, st, rfl, ⟨_, hst⟩, fun D hD => lc_tups (n := n) (f := fun x => fl n (p x)) hn hst hD w1 (fun x H' Q' hx s1 k' => ?_) fun rs H' s1 el e1 t1 => ?_⟩
  · refine ⟨_, w3 _, st, rfl, ⟨_, s1.seq hst⟩, fun D2 hD2 => lc_filt (n := n) (p := p x) hn (s1.seq hst) hD2 (w2 _) (w4 _) (fun y H2 Qb hy s2 q => ht x y H2 Qb hx hy (s1.trans s2) q) fun H2 s2 e2 => ?_⟩
    exact ⟨D2, _, rfl, .inl ⟨SqL.of e2, fun l hl => k' l _ (s2.trans (same_new hl)) (s2.free hl) upd_same⟩⟩
  · refine ⟨D, _, rfl, .inl ⟨SqL.of e1, fun l hl => k l rs _ (s1.trans (same_new hl)) (s1.free hl) el upd_same (t1.same (same_new hl))⟩⟩
/-- tuple([y for y in states if t(y)]) -/
theorem te_filt {tt : TT} {p : Nat → Bool} (hn : n ≤ 600) (hst : SqL K H1 st (natsV (List.range n))) (e4 : σ[4]? = some (some (.ref st)))
    (w2 : ∀ y, wipe ((wipe σ vj).set j (some y)) vj = wipe σ vj) (w4 : ((wipe σ vj).set j (some V.non))[j]? = some (some V.non))
    (ht : ∀ y H' Qb, y < n → Same H1 H' → (∀ H2, Same H' H2 → Qb (p y) H2) → tt ((wipe σ vj).set j (some (.int (y : Nat)))) H' Qb)
    (k : ∀ P H', Same H1 H' → H1 P = none → H' P = some (.tup (natsV (fl n p))) → Q (.ref P) H') :
    tCB (rTupQ K) (tCons (tLc (iList K (tVar 4)) (gName j) tt (tVar j) vj) tNil) σ H1 Q := by
  refine ⟨_, e4, st, rfl, ⟨_, hst⟩, fun D2 hD2 => lc_filt (n := n) (p := p) hn hst hD2 w2 w4 ht fun H2 s2 e2 => ?_⟩
  exact ⟨D2, _, rfl, .inl ⟨SqL.of e2, fun l hl => k l _ (s2.trans (same_new hl)) (s2.free hl) upd_same⟩⟩
end
/-! ### the attributes of an order -/
theorem putF_len (f : Str) (v : V) : ∀ fs : List (Str × V), (putF f v fs).length ≤ fs.length + 1
  | [] => Nat.le_refl _
  | (g, x) :: r => by
    show (if g = f then (g, v) :: r else (g, x) :: putF f v r).length ≤ _
    by_cases h : g = f
    · rw [if_pos h]
      simp
    · rw [if_neg h]
      have := putF_len f v r
      simp only [List.length_cons]
      omega
def oF (n : Nat) (pa pb pc pe pd : Addr) : List (Str × V) := putF "edges" (.ref pd) (putF "_ends" (.ref pe) (putF "_covers" (.ref pc) (putF "_below" (.ref pb) (putF "_above" (.ref pa) (putF "n" (.int (n : Int)) [])))))
theorem lkN {f g : Str} {v : V} {fs : List (Str × V)} {o : Option V} (h : ¬ g = f) (e : fs.lookup g = o) : (putF f v fs).lookup g = o := by
  rw [lookup_putF, if_neg h]
  exact e
theorem lkY {f : Str} {v : V} {fs : List (Str × V)} : (putF f v fs).lookup f = some v := by
  rw [lookup_putF, if_pos rfl]
def edgesL (n : Nat) (c : Nat → Nat → Bool) : List (Nat × Nat) := (List.range n).flatMap fun s => (fl n (c s)).map fun t => (s, t)
/-- pairs of numbers at the places rs -/
def PairsAt (H : Hp) (rs : List Addr) (l : List (Nat × Nat)) : Prop := rs.length = l.length ∧ ∀ (i : Nat) (r : Addr) (q : Nat × Nat), rs[i]? = some r → l[i]? = some q → H r = some (.tup [.int (q.1 : Int), .int (q.2 : Int)])
theorem PairsAt.same {H H' : Hp} {rs : List Addr} {l : List (Nat × Nat)} (t : PairsAt H rs l) (s : Same H H') : PairsAt H' rs l := ⟨t.1, fun i r q a b => s _ _ (t.2 i r q a b)⟩
theorem PairsAt.nil {H : Hp} : PairsAt H [] [] := ⟨rfl, fun i r q e => by simp at e⟩
theorem PairsAt.snoc {H : Hp} {rs : List Addr} {l : List (Nat × Nat)} {r : Addr} {a b : Nat} (t : PairsAt H rs l) (h : H r = some (.tup [.int (a : Int), .int (b : Int)])) : PairsAt H (rs ++ [r]) (l ++ [(a, b)]) := by
  refine ⟨by simp [t.1], fun i r' q e1 e2 => ?_⟩
  by_cases hi : i < rs.length
  · rw [List.getElem?_append_left hi] at e1
    rw [List.getElem?_append_left (by rw [← t.1]; exact hi)] at e2
    exact t.2 i r' q e1 e2
  · rw [List.getElem?_append_right (by omega)] at e1
    rw [List.getElem?_append_right (by rw [← t.1]; omega)] at e2
    rw [t.1] at e1
    cases hz : i - l.length with
    | zero =>
      rw [hz] at e1 e2
      cases e1
      cases e2
      exact h
    | succ z =>
      rw [hz] at e1
      simp at e1
structure OrdF (H : Hp) (o C dx : Addr) (n : Nat) (M c : Nat → Nat → Bool) : Prop where
  ex : ∃ (pa pb pc pe pd : Addr) (ra rb rc rd : List Addr), H o = some (.ins C dx (oF n pa pb pc pe pd)) ∧
    (H pa = some (.tup (ra.map V.ref)) ∧ ra.length = n ∧ TupsAt H ra fun x => fl n (M x)) ∧
    (H pb = some (.tup (rb.map V.ref)) ∧ rb.length = n ∧ TupsAt H rb fun y => fl n fun x => M x y) ∧
    (H pc = some (.tup (rc.map V.ref)) ∧ rc.length = n ∧ TupsAt H rc fun x => fl n (c x)) ∧
    H pe = some (.tup (natsV (fl n fun s => (fl n (c s)).isEmpty))) ∧
    (H pd = some (.tup (rd.map V.ref)) ∧ PairsAt H rd (edgesL n c))
theorem rg_nats (m : Nat) : rgV 0 (m : Int) = natsV (List.range m) := by
  unfold rgV natsV
  have e : ((m : Int) - 0).toNat = m := by omega
  rw [e]
  refine List.map_congr_left fun i _ => ?_
  rw [Int.zero_add]
section
variable {H H' : Hp} {o C dx : Addr} {fs : List (Str × V)}
theorem keep_tup {r : Addr} {xs : List V} (kp : Keep o H H') (ho : H o = some (.ins C dx fs)) (h : H r = some (.tup xs)) : H' r = some (.tup xs) := kp r _ h (ne_of h ho (by intro z; cases z))
theorem keep_lst {r : Addr} {xs : List V} (kp : Keep o H H') (ho : H o = some (.ins C dx fs)) (h : H r = some (.lst xs)) : H' r = some (.lst xs) := kp r _ h (ne_of h ho (by intro z; cases z))
theorem MatAt.keep {p : Addr} {n : Nat} {M : Nat → Nat → Bool} {rs : List Addr} (m : MatAt H p n M rs) (kp : Keep o H H') (ho : H o = some (.ins C dx fs)) : MatAt H' p n M rs :=
  ⟨keep_lst kp ho m.top, m.len, fun x r e => keep_lst kp ho (m.row x r e), m.nd, m.np⟩
theorem TupsAt.keep {rs : List Addr} {f : Nat → List Nat} (t : TupsAt H rs f) (kp : Keep o H H') (ho : H o = some (.ins C dx fs)) : TupsAt H' rs f := fun x r e => keep_tup kp ho (t x r e)
theorem PairsAt.keep {rs : List Addr} {l : List (Nat × Nat)} (t : PairsAt H rs l) (kp : Keep o H H') (ho : H o = some (.ins C dx fs)) : PairsAt H' rs l := ⟨t.1, fun i r q a b => keep_tup kp ho (t.2 i r q a b)⟩
end
theorem edges_succ {j : Nat} {c : Nat → List Nat} : ((List.range (j + 1)).flatMap fun s => (c s).map fun t => (s, t)) = ((List.range j).flatMap fun s => (c s).map fun t => (s, t)) ++ (c j).map fun t => (j, t) := by
  rw [List.range_succ, List.flatMap_append]
  simp
theorem edges_len {n : Nat} {c : Nat → List Nat} (h : ∀ x, (c x).length ≤ n) : ∀ j, ((List.range j).flatMap fun s => (c s).map fun t => (s, t)).length ≤ j * n
  | 0 => by simp
  | j + 1 => by
    rw [edges_succ, List.length_append, List.length_map, Nat.succ_mul]
    have := edges_len h j
    have := h j
    omega
/-- [(x, y) for x in states for y in c[x]] -/
theorem lc_edges {K : PySem.W.Frag} {st D : Addr} {n i1 i2 : Nat} {vs vs1 : List Nat} {σ : L2.St} {H1 : Hp} {Qd : Hp → Prop} {wi1 : TI} {te : TE} {c : Nat → List Nat} (hn : n ≤ 24) (hc : ∀ x, (c x).length ≤ n)
    (hst : SqL K H1 st (natsV (List.range n))) (hD : H1 D = none)
    (w1 : ∀ y, wipe ((wipe σ vs).set i1 (some y)) vs = wipe σ vs)
    (w2 : ∀ x y, wipe ((wipe ((wipe σ vs).set i1 (some x)) vs1).set i2 (some y)) vs1 = wipe ((wipe σ vs).set i1 (some x)) vs1)
    (hi : ∀ x H' R, x < n → Same H1 H' → (∀ T, SqT K H1 T (natsV (c x)) → R (Itt K T) H') → wi1 ((wipe σ vs).set i1 (some (.int (x : Nat)))) H' R)
    (he : ∀ (x y : Nat) H' Q, x < n → Same H1 H' → (∀ r, H' r = none → Q (.ref r) (upd H' r (.tup [.int (x : Int), .int (y : Int)]))) → te ((wipe ((wipe σ vs).set i1 (some (.int (x : Nat)))) vs1).set i2 (some (.int (y : Nat)))) H' Q)
    (hd : ∀ rs H', Same H1 H' → H' D = some (.lst (rs.map V.ref)) → PairsAt H' rs ((List.range n).flatMap fun s => (c s).map fun t => (s, t)) → Qd H') :
    ∃ W : Nat → Nat → Hp → Prop, (∃ m, W 0 m (upd H1 D (.lst []))) ∧ ∀ i m H, W i m H →
      ((Itl K st).stop i H ∧ Qd H) ∨ ((Itl K st).go i H ∧ ∃ Nx : Hp → Prop, (∀ H', Nx H' → ∃ m', m' < m ∧ W (i + 1) m' H') ∧ ∀ x H', (Itl K st).yld i H x H' → gName i1 x (wipe σ vs) H' fun σ2 H2 => wipe σ2 vs = wipe σ vs ∧ tYes σ2 H2 fun b H3 =>
        if b = true then wi1 σ2 H3 fun J1 H4 => ∃ W1 : Nat → Nat → Hp → Prop, (∃ m, W1 0 m H4) ∧ ∀ j k H, W1 j k H →
          (J1.stop j H ∧ Nx H) ∨ (J1.go j H ∧ ∃ Nx1 : Hp → Prop, (∀ H', Nx1 H' → ∃ k', k' < k ∧ W1 (j + 1) k' H') ∧ ∀ x H', J1.yld j H x H' → gName i2 x (wipe σ2 vs1) H' fun σ3 H5 => wipe σ3 vs1 = wipe σ2 vs1 ∧ tYes σ3 H5 fun b H6 =>
            if b = true then te σ3 H6 fun y H7 => ∃ acc, H7 D = some (.lst acc) ∧ acc.length < sizeLine ∧ Nx1 (upd H7 D (.lst (acc ++ [y]))) else Nx1 H6)
        else Nx H3) := by
  refine ⟨fun i m H => m = n - i ∧ i ≤ n ∧ ∃ rs, Same H1 H ∧ H D = some (.lst (rs.map V.ref)) ∧ PairsAt H rs ((List.range i).flatMap fun s => (c s).map fun t => (s, t)),
    ⟨n, by simp, Nat.zero_le _, [], same_new hD, upd_same, PairsAt.nil⟩, ?_⟩
  rintro i m H ⟨rfl, hin, rs, s1, e1, p1⟩
  have hq := s1.seq hst
  by_cases hlt : i < n
  · refine .inr ⟨⟨_, .int (i : Int), hq, natsV_get (List.getElem?_range hlt)⟩, fun H' => ∃ rs, Same H1 H' ∧ H' D = some (.lst (rs.map V.ref)) ∧ PairsAt H' rs ((List.range (i + 1)).flatMap fun s => (c s).map fun t => (s, t)),
      fun H' q => ⟨n - (i + 1), by omega, rfl, hlt, q⟩, fun x H' y => ?_⟩
    obtain ⟨rfl, y⟩ := y
    obtain rfl : x = .int (i : Int) := (ints_range' (y _ hq)).2
    refine ⟨w1 _, ?_⟩
    refine hi i H' _ hlt s1 fun T hT => ?_
    refine ⟨fun j k H2 => k = (c i).length - j ∧ j ≤ (c i).length ∧ ∃ rs, Same H1 H2 ∧ H2 D = some (.lst (rs.map V.ref)) ∧ PairsAt H2 rs (((List.range i).flatMap fun s => (c s).map fun t => (s, t)) ++ ((c i).take j).map fun t => (i, t)),
      ⟨(c i).length, by simp, Nat.zero_le _, rs, s1, e1, by simpa using p1⟩, ?_⟩
    rintro j k H2 ⟨rfl, hj, rs2, s2, e2, p2⟩
    have hq2 := Same.sqT s2 hT
    by_cases hl : j < (c i).length
    · have hget : (c i)[j]? = some (c i)[j] := by simp [hl]
      refine .inr ⟨⟨_, .int (((c i)[j] : Nat) : Int), hq2, natsV_get hget⟩, fun H3 => ∃ rs, Same H1 H3 ∧ H3 D = some (.lst (rs.map V.ref)) ∧ PairsAt H3 rs (((List.range i).flatMap fun s => (c s).map fun t => (s, t)) ++ ((c i).take (j + 1)).map fun t => (i, t)),
        fun H3 q => ⟨(c i).length - (j + 1), by omega, rfl, hl, q⟩, fun x H3 y => ?_⟩
      obtain ⟨rfl, y⟩ := y
      obtain rfl : x = .int (((c i)[j] : Nat) : Int) := by
        have z := y _ hq2
        rw [natsV_get hget] at z
        exact (Option.some.inj z).symm
      refine ⟨w2 _ _, ?_⟩
      refine he i _ H3 _ hlt s2 fun r hr => ?_
      have nr : r ≠ D := ne_of_none' e2 hr
      have len2 : rs2.length ≤ i * n + n := by
        rw [p2.1, List.length_append, List.length_map, List.length_take]
        have := edges_len hc i
        have := hc i
        omega
      have b2 : i * n ≤ 24 * 24 := Nat.mul_le_mul (by omega) hn
      refine ⟨rs2.map V.ref, by rw [upd_ne nr.symm]; exact e2, small1000 (by rw [List.length_map]; omega), rs2 ++ [r], same_mut (s2.trans (same_new hr)) hD, ?_, ?_⟩
      · rw [upd_same, List.map_append]
        rfl
      · have q := (p2.same (same_new (o := .tup [.int (i : Int), .int (((c i)[j] : Nat) : Int)]) hr)).snoc (r := r) (a := i) (b := (c i)[j]) upd_same
        have e3 : (c i).take (j + 1) = (c i).take j ++ [(c i)[j]] := by
          rw [List.take_add_one, hget]
          rfl
        rw [e3, List.map_append, ← List.append_assoc]
        refine ⟨q.1, fun a r' v a1 a2 => ?_⟩
        have t1 := q.2 a r' v a1 a2
        have nr' : r' ≠ D := by
          rintro rfl
          rw [upd_ne nr.symm, e2] at t1
          cases t1
        rw [upd_ne nr']
        exact t1
    · have ej : j = (c i).length := by omega
      refine .inl ⟨⟨_, hq2, by rw [natsV_len]; omega⟩, rs2, s2, e2, ?_⟩
      rw [edges_succ]
      rw [ej, List.take_length] at p2
      exact p2
  · have e : i = n := by omega
    subst e
    exact .inl ⟨⟨_, hq, by rw [natsV_len, List.length_range]; exact Nat.le_refl _⟩, hd rs H s1 e1 p1⟩
end Z

set_option Elab.async false
set_option linter.all false
set_option maxRecDepth 100000
namespace Z
open PySem L2
local macro_rules | `(tactic| walk_at "side") => `(tactic| first | omega | (unfold CMul; omega) | (unfold CDiv; omega) | (unfold CDivN; omega) | (unfold CPow; omega) | decide)
local macro_rules | `(tactic| walk_at "lst") => `(tactic| first | exact SqL.of (by assumption) | exact SqL.of upd_same | assumption | exact upd_same)
local macro_rules | `(tactic| walk_at "r1") => `(tactic| first | refine ⟨_, rfl, ?_⟩ | refine ⟨_, _, rfl, rfl, ?_⟩ | refine Or.inl ⟨_, rfl, ?_⟩ | refine And.intro rfl ?_ | refine ⟨_, _, _, _, rfl, rfl, by walk_at "lst", rfl, ?_⟩ | refine ⟨_, _, rfl, Or.inl (by walk_at "lst"), ?_⟩ | refine And.intro (by walk_at "side") ?_)
local macro_rules | `(tactic| walk_at "r") => `(tactic| repeat walk_at "r1")
def top (i : Nat) : Stmt := PySem.Challenge.pw_spentframes_k04_refused_orders.main.body.getD i (.Pass ⟨0, 0, 0, 0⟩)
abbrev s_mix : Stmt := top 19
abbrev s_draw : Stmt := top 20
section
variable {P : Program} {w : World} {K : PySem.W.Frag} {mg : Str → Option Value} {base : Heap}
theorem sc_mix : FnScope ["number", "turn", "once", "twice"] ["number", "turn"] (defScope s_mix) := ⟨rfl, rfl, rfl, by decide +kernel, rfl, by decide +kernel, by decide +kernel⟩
theorem mix_range {x M : Int} (h : 0 < M) : 0 ≤ x % M ∧ x % M < M := ⟨Int.emod_nonneg x (by omega), Int.emod_lt_of_pos x h⟩
theorem ok_mix {f : Addr} {fd : FuncData} (F : Fun K "_law_mix" "_law_mix" s_mix f fd) (T : Bl mg) : FnOk P w K mg base CX0 1 f fd ["number", "turn"] spMix := by
  refine F.ok sc_mix (fun vs H Q E h => ?_) (fun cdv A outer s H vs Q E hr h => ?_)
  · obtain ⟨a, b, rfl, _⟩ := h
    rfl
  · obtain ⟨a, b, rfl, ha, ha', hb, hb', k⟩ := h
    refine ⟨_,
      (pss_cons (ps_set (i := 2) sc_mix.nd rfl (Or.inl rfl) (pe_op op_mod (pe_callTy call_int1 (by rfl) T.n_int (by decide +kernel) (pa_cons (pe_op op_add (pe_op op_add (pe_op op_mul (pv 0) pe_int) (pe_op op_mul (pv 1) pe_int)) pe_int) pa_nil)) pe_int))
      (pss_cons (ps_set (i := 3) sc_mix.nd rfl (Or.inl rfl) (pe_op op_mod (pe_callTy call_int1 (by rfl) T.n_int (by decide +kernel) (pa_cons (pe_op op_add (pe_op op_add (pe_op op_mul (pv 2) (pv 2)) (pe_op op_mul (pv 1) pe_int)) (pe_op op_fdiv (pv 2) pe_int)) pa_nil)) pe_int))
      (pss_one (ps_ret (pe_op op_fdiv (pe_op op_mod (pe_callTy call_int1 (by rfl) T.n_int (by decide +kernel) (pa_cons (pe_op op_add (pe_op op_mul (pv 3) pe_int) (pv 2)) pa_nil)) pe_int) pe_int)))))
      , ?_⟩
    have m1 := mix_range (x := a * 69069 + b * 30011 + 7) (M := 2147483629) (by decide)
    walk_at "r"
    have m2 := mix_range (x := ((a * 69069 + b * 30011 + 7) % 2147483629 * ((a * 69069 + b * 30011 + 7) % 2147483629) + b * 40503 + (a * 69069 + b * 30011 + 7) % 2147483629 / 977) % 2147483587 * 48271 + (a * 69069 + b * 30011 + 7) % 2147483629) (M := 2147483563) (by decide)
    exact k _ (by omega)
theorem sc_draw : FnScope ["hand", "many", "cell", "rest"] ["hand", "many"] (defScope s_draw) := ⟨rfl, rfl, rfl, by decide +kernel, rfl, by decide +kernel, by decide +kernel⟩
theorem hnd_mk {H : Hp} {h a : Addr} {cells : List Int} {i : Nat} {r t : Int} {o : HO} (eo : o = .lst [.ref a, .int (i : Nat), .int r, .int t]) (e2 : H a = some (.lst (cells.map V.int))) (ne : a ≠ h) (hl : cells.length ≤ 63) (hc : ∀ c ∈ cells, 0 ≤ c) (hi : i ≤ cells.length) (hr : 0 ≤ r) (h0 : 0 ≤ t) (h1 : t < 2147483549) : Hnd (upd H h o) h a :=
  ⟨cells, i, r, t, by rw [eo]; exact upd_same, by rw [upd_ne ne]; exact e2, ne, hl, hc, hi, hr, h0, h1⟩
theorem ok_draw {f : Addr} {fd : FuncData} (F : Fun K "_law_draw" "_law_draw" s_draw f fd) (T : Bl mg) (c_law_mix : Cal P w K mg base CX0 "_law_mix" 1 spMix) : FnOk P w K mg base CX0 2 f fd ["hand", "many"] spDraw := by
  refine F.ok sc_draw (fun vs H Q E h => ?_) (fun cdv A outer s H vs Q E hr h => ?_)
  · obtain ⟨h, a, b, rfl, _⟩ := h
    rfl
  · obtain ⟨h, a, m, rfl, hn, h1, h2, k⟩ := h
    obtain ⟨cells, i, r, t, e1, e2, ne, hlen, hpos, hi, hr0, ht0, ht1⟩ := hn.ex
    have thr : ∃ o, H h = some o := ⟨_, e1⟩
    have fm : ∀ x : Int, 0 ≤ x.fmod m ∧ x.fmod m < m := fun x => ⟨Int.fmod_nonneg_of_pos x (by omega), Int.fmod_lt_of_pos x (by omega)⟩
    have fre : ∀ (b : Addr) (o : HO), H b = none → upd H h o b = none := fun b o z => by rw [upd_ne (ne_of_none e1 z).symm]; exact z
    refine ⟨_,
      (pss_cons (ps_if (PW.pt (pw_and (pt_cmpR op_eq (pe_ix (kix_list K) (pv 0) pe_int (fun _ _ => rfl)) pe_int (nomark _)) (pw_and1 (pt_cmpR op_lt (pe_ix (kix_list K) (pv 0) pe_int (fun _ _ => rfl)) (pe_callB (klen K) (by rfl) T.n_len PySem.boot_len (pa_cons (pe_ix (kix_list K) (pv 0) pe_int (fun _ _ => rfl)) pa_nil)) (nomark _)))))
        (pss_cons (ps_set (i := 2) sc_draw.nd rfl (Or.inl rfl) (pe_ix (kix_list K) (pe_ix (kix_list K) (pv 0) pe_int (fun _ _ => rfl)) (pe_ix (kix_list K) (pv 0) pe_int (fun _ _ => rfl)) (fun _ _ => rfl)))
        (pss_cons (ps_asg (pe_op op_add (pe_ix (kix_list K) (pv 0) pe_int (fun _ _ => rfl)) pe_int) (pg_sub (pv 0) pe_int set_list))
        (pss_cons (ps_if (pt_cmpR op_lt (pv 2) (pe_op op_pow pe_int pe_int) (nomark _))
          (pss_one (ps_ret (pe_op op_modN (pe_callTy call_int1 (by rfl) T.n_int (by decide +kernel) (pa_cons (pe_cal c_law_mix (hr.mono (by decide)) (by rfl) (pa_cons (pe_op op_mod (pe_callTy call_int1 (by rfl) T.n_int (by decide +kernel) (pa_cons (pv 2) pa_nil)) pe_int) (pa_cons (pe_ix (kix_list K) (pv 0) pe_int (fun _ _ => rfl)) pa_nil))) pa_nil)) (pv 1))))
          pss_nil)
        (pss_one (ps_asg (pv 2) (pg_sub (pv 0) pe_int set_list))))))
        pss_nil)
      (pss_cons (ps_if (pt_cmpR op_gt (pe_ix (kix_list K) (pv 0) pe_int (fun _ _ => rfl)) pe_int (nomark _))
        (pss_cons (ps_set (i := 3) sc_draw.nd rfl (Or.inl rfl) (pe_ix (kix_list K) (pv 0) pe_int (fun _ _ => rfl)))
        (pss_cons (ps_asg (pe_op op_fdivN (pv 3) (pv 1)) (pg_sub (pv 0) pe_int set_list))
        (pss_one (ps_ret (pe_op op_modN (pe_callTy call_int1 (by rfl) T.n_int (by decide +kernel) (pa_cons (pv 3) pa_nil)) (pv 1))))))
        pss_nil)
      (pss_cons (ps_asg (pe_op op_mod (pe_callTy call_int1 (by rfl) T.n_int (by decide +kernel) (pa_cons (pe_op op_add (pe_ix (kix_list K) (pv 0) pe_int (fun _ _ => rfl)) pe_int) pa_nil)) pe_int) (pg_sub (pv 0) pe_int set_list))
      (pss_one (ps_ret (pe_op op_modN (pe_callTy call_int1 (by rfl) T.n_int (by decide +kernel) (pa_cons (pe_cal c_law_mix (hr.mono (by decide)) (by rfl) (pa_cons (pe_ix (kix_list K) (pv 0) pe_int (fun _ _ => rfl)) (pa_cons (pe_ix (kix_list K) (pv 0) pe_int (fun _ _ => rfl)) pa_nil))) pa_nil)) (pv 1)))))))
      , ?_⟩
    walk_at "r"
    have tl : ∀ (X : Hp) (i' : Nat) (r' t' : Int), Keep h H X → (∀ b, H b = none → X b = none) → X a = some (.lst (cells.map V.int)) → i' ≤ cells.length → 0 ≤ r' → 0 ≤ t' → t' < 2147483549 →
        ∀ d, 0 ≤ d → d < m → Q (.int d) (upd X h (.lst [.ref a, .int (i' : Nat), .int r', .int t'])) := fun X i' r' t' kp fr f2 hi' hr' ht' ht'' d d0 d1 =>
      k d _ d0 d1 (kp.trans Keep.upd) (hnd_mk rfl f2 ne hlen hpos hi' hr' ht' ht'') (fun b z => by rw [upd_ne (ne_of_none e1 z).symm]; exact fr b z)
    refine iteB (fun c1 => ?_) (fun c1 => ?_)
    · have r0 : r = 0 := dec_i_t c1
      walk_at "r"
      refine iteB (fun c2 => ?_) (fun c2 => ?_)
      · have hil : i < cells.length := by
          have := of_decide_eq_true c2
          simp only [List.length_map] at this
          omega
        have hget : (cells.map V.int)[i]? = some (.int (cells[i])) := by simp [hil]
        walk_at "r"
        refine ⟨_, _, _, _, rfl, rfl, SqL.of e2, atI_nat hget, ?_⟩
        walk_at "r"
        have e3 : upd H h (.lst [.ref a, .int ((i : Int) + 1), .int r, .int t]) h = some (.lst [.ref a, .int ((i + 1 : Nat) : Int), .int r, .int t]) := upd_same
        have kp : Keep h H (upd H h (.lst [.ref a, .int ((i + 1 : Nat) : Int), .int r, .int t])) := Keep.upd
        have fr : ∀ b, H b = none → upd H h (.lst [.ref a, .int ((i + 1 : Nat) : Int), .int r, .int t]) b = none := fun b z => fre b _ z
        have f2 : upd H h (.lst [.ref a, .int ((i + 1 : Nat) : Int), .int r, .int t]) a = some (.lst (cells.map V.int)) := by rw [upd_ne ne]; exact e2
        have hc0 : 0 ≤ cells[i] := hpos _ (List.getElem_mem hil)
        refine iteB (fun c3 => ?_) (fun c3 => ?_)
        · walk_at "r"
          have q := mix_range (x := cells[i]) (M := 2147483629) (by decide)
          refine ⟨_, _, rfl, q.1, by omega, by omega, by omega, fun m' hm => ?_⟩
          walk_at "r"
          have u := tl H (i + 1) r t (Keep.refl _ _) (fun _ z => z) e2 (by omega) hr0 ht0 ht1 (m'.fmod m) (fm _).1 (fm _).2
          exact u
        · walk_at "r"
          have big : (1000000000000000000 : Int) ≤ cells[i] := by
            have z := of_decide_eq_false c3
            have z2 : (10 : Int) ^ Int.toNat 18 = 1000000000000000000 := by decide
            rw [z2] at z
            omega
          refine iteB (fun c4 => ?_) (fun c4 => ?_)
          · walk_at "r"
            refine tl _ (i + 1) (cells[i].fdiv m) t ?_ ?_ ?_ (by omega) (Int.fdiv_nonneg (by omega) (by omega)) ht0 ht1 _ (fm _).1 (fm _).2
            · exact Keep.upd.trans Keep.upd
            · intro b z
              rw [upd_ne (ne_of_none e1 z).symm, upd_ne (ne_of_none e1 z).symm]
              exact z
            · rw [upd_ne ne, upd_ne ne]
              exact e2
          · have z := of_decide_eq_false c4
            omega
      · walk_at "r"
        refine iteB (fun c4 => ?_) (fun c4 => ?_)
        · have z := of_decide_eq_true c4
          omega
        · walk_at "r"
          have q := mix_range (x := t + 1) (M := 2147483549) (by decide)
          refine ⟨_, _, rfl, q.1, by omega, by omega, by omega, fun m' hm => ?_⟩
          walk_at "r"
          exact tl H i r ((t + 1) % 2147483549) (Keep.refl _ _) (fun _ z => z) e2 hi hr0 q.1 q.2 _ (fm _).1 (fm _).2
    · have r0 : r ≠ 0 := dec_i_f c1
      walk_at "r"
      refine iteB (fun c4 => ?_) (fun c4 => ?_)
      · walk_at "r"
        exact tl H i (r.fdiv m) t (Keep.refl _ _) (fun _ z => z) e2 hi (Int.fdiv_nonneg hr0 (by omega)) ht0 ht1 _ (fm _).1 (fm _).2
      · have z := of_decide_eq_false c4
        omega
end
end Z

set_option Elab.async false
set_option linter.all false
set_option maxRecDepth 100000
namespace Z
open PySem L2
abbrev s_bo : Stmt := inClass (top 3) 0
/-- what the written part says of BadOrder -/
structure ExC (K : PySem.W.Frag) (mg : Str → Option Value) (C fI : Addr) : Prop where
  ox : OexC K C
  g : mg "BadOrder" = some (.ref C)
  iC : PySem.W.findIn K (.ref C) "__init__" = some (some (.ref fI))
  tI : PySem.W.typeIn K (.ref fI) = some (.type "function")
  n1 : PySem.W.findIn K (.ref C) "what" = some none
  n2 : PySem.W.findIn K (.ref C) "at" = some none
def spEI (C : Addr) : Sp := fun vs H Q _ => ∃ (a : Addr) (x y : V), vs = [.ref a, x, y] ∧ H a = some (exo a C none) ∧
  ∀ d, H d = none → d ≠ a → Q .non (upd (upd (upd H d (exd d [("what", x)])) a (exo a C (some d))) d (exd d [("at", y), ("what", x)]))
section
variable {P : Program} {w : World} {K : PySem.W.Frag} {mg : Str → Option Value} {base : Heap}
theorem sc_bo : FnScope ["self", "what", "at"] ["self", "what", "at"] (defScope s_bo) := ⟨rfl, rfl, rfl, by decide +kernel, rfl, by decide +kernel, by decide +kernel⟩
theorem ok_bo {f C fI : Addr} {fd : FuncData} (F : Fun K "__init__" "BadOrder.__init__" s_bo f fd) (T : ExC K mg C fI) : FnOk P w K mg base CX0 1 f fd ["self", "what", "at"] (spEI C) := by
  refine F.ok sc_bo (fun vs H Q E h => ?_) (fun cdv A outer s H vs Q E hr h => ?_)
  · obtain ⟨a, x, y, rfl, _⟩ := h
    rfl
  · obtain ⟨a, x, y, rfl, ha, k⟩ := h
    refine ⟨_, pss_cons (ps_ost (pv 0) (pv 1)) (pss_one (ps_ost (pv 0) (pv 2))), ?_⟩
    refine ⟨_, rfl, _, rfl, a, C, rfl, T.ox, T.n1, .inl ⟨ha, fun d hd nd => ?_⟩⟩
    refine ⟨_, rfl, _, rfl, a, C, rfl, T.ox, T.n2, .inr ⟨d, [("what", x)], upd_same, ?_, ?_, ?_⟩⟩
    · rw [upd_ne nd]
      exact upd_same
    · show 1 ≤ 900
      decide
    · exact k d hd nd
end
/-- what is asked behind the arguments of BadOrder(x, y): the made error's own dict at d, all else as it was -/
theorem mk2_of {C : Addr} {x y : V} {H1 : Hp} {Q : XK} (k : ∀ (d : Addr) (H' : Hp), H1 d = none → Same H1 H' → H' d = some (.xd [("at", y), ("what", x)]) → Q (.ref C) (some d) H') :
    [x, y].length ≤ 1000 ∧ ∀ a, H1 a = none → spEI C (.ref a :: ([x, y] ++ [])) (upd H1 a (exo a C none))
      (fun v H2 => v = .non ∧ ∃ (d : Addr) (fs : List (Str × V)), H2 a = some (exo a C (some d)) ∧ H2 d = some (exd d fs) ∧ H1 d = none ∧ Q (.ref C) (some d) (upd (del H2 a) d (.xd fs))) (fun _ _ _ => False) := by
  refine ⟨(by show 2 ≤ 1000; decide), fun a ha => ⟨a, x, y, rfl, upd_same, fun d hd nd => ⟨rfl, d, [("at", y), ("what", x)], ?_, upd_same, ?_, ?_⟩⟩⟩
  · rw [upd_ne (Ne.symm nd), upd_same]
  · rw [upd_ne nd] at hd
    exact hd
  · have hd' : H1 d = none := by
      rw [upd_ne nd] at hd
      exact hd
    refine k d _ hd' (fun b o e => ?_) upd_same
    have nb : b ≠ d := ne_of_none e hd'
    have na : b ≠ a := ne_of_none e ha
    rw [upd_ne nb, del_ne na, upd_ne nb, upd_ne na, upd_ne nb, upd_ne na]
    exact e
/-- an error of BadOrder, with its two fields -/
def EBO (C : Addr) (H : Hp) (x y : V) (E : XK) : Prop := ∀ (d : Addr) (H' : Hp), Same H H' → H' d = some (.xd [("at", y), ("what", x)]) → E (.ref C) (some d) H'
/-! ### _check_parts -/
/-- the first fault of the parts -/
def pairFault (high : Int) : List PyData → Nat → Option Nat
  | [], _ => none
  | d :: ds, i => if couple d high then pairFault high ds (i + 1) else some i
def pairF : Option Nat → Option (Str × Int) | some i => some ("pair", (i : Int)) | none => none
def partsFault (n : PyData) (p : PyData) : Option (Str × Int) :=
  if whole n (some 1) (some 24) then
    match n, seqOf p with
    | .int m, some ds => if ds.length ≤ 600 then pairF (pairFault (m - 1) ds 0) else some ("pairs", 0)
    | _, _ => some ("pairs", 0)
  else some ("states", 0)
def spParts (K : PySem.W.Frag) (C : Addr) : Sp := fun vs H Q E => ∃ (x y : V) (n p : PyData), vs = [x, y] ∧ Dp K H x n ∧ AnyD K H y p ∧
  (partsFault n p = none → ∀ H', Same H H' → Q .non H') ∧ (∀ what at_, partsFault n p = some (what, at_) → EBO C H (.str what) (.int at_) E)
end Z

set_option Elab.async false
set_option linter.all false
set_option maxRecDepth 100000
namespace Z
open PySem L2
local macro_rules | `(tactic| walk_at "side") => `(tactic| first | omega | (unfold CMul; omega) | (unfold CDiv; omega) | (unfold CDivN; omega) | (unfold CPow; omega) | decide)
local macro_rules | `(tactic| walk_at "lst") => `(tactic| first | exact SqL.of (by assumption) | exact SqL.of upd_same | assumption | exact upd_same)
local macro_rules | `(tactic| walk_at "r1") => `(tactic| first | refine ⟨_, rfl, ?_⟩ | refine ⟨_, _, rfl, rfl, ?_⟩ | refine Or.inl ⟨_, rfl, ?_⟩ | refine And.intro rfl ?_ | refine ⟨_, _, _, _, rfl, rfl, by walk_at "lst", rfl, ?_⟩ | refine ⟨_, _, rfl, Or.inl (by walk_at "lst"), ?_⟩ | refine And.intro (by walk_at "side") ?_)
local macro_rules | `(tactic| walk_at "r") => `(tactic| repeat walk_at "r1")
abbrev s_whole : Stmt := top 7
abbrev s_seq : Stmt := top 8
abbrev s_couple : Stmt := top 9
section
variable {P : Program} {w : World} {K : PySem.W.Frag} {mg : Str → Option Value} {base : Heap}
theorem sc_whole : FnScope ["thing", "low", "high"] ["thing", "low", "high"] (defScope s_whole) := ⟨rfl, rfl, rfl, by decide +kernel, rfl, by decide +kernel, by decide +kernel⟩
theorem oV_none {o : Option Int} : decide (oV o = .non) = o.isNone := by cases o <;> simp [oV]
theorem ok_whole {f : Addr} {fd : FuncData} (F : FunD K "is_whole" "is_whole" (defArgs s_whole) (defBody s_whole) (defScope s_whole) [.non, .non] [] f fd) (T : Bl mg) : FnOk P w K mg base CX0 1 f fd ["thing", "low", "high"] (spWhole K) := by
  refine F.ok sc_whole (fun vs H Q E h => ?_) (fun cdv A outer s H vs Q E hr h => ?_)
  · obtain ⟨x, d, lo, hi, rfl, _⟩ := h
    rfl
  · obtain ⟨x, d, lo, hi, rfl, hd, k⟩ := h
    refine ⟨_,
      (pss_cons (ps_if (PW.pt (pw_or (pt_val (pe_callB (kisi K) (by rfl) T.n_isinstance (by decide +kernel) (pa_cons (pv 0) (pa_cons (pe_bltn (v := .ty "bool") (u := .type "bool") (by rfl) T.n_bool (by decide +kernel) rfl) pa_nil)))) (pw_or1 (pt_not (pt_val (pe_callB (kisi K) (by rfl) T.n_isinstance (by decide +kernel) (pa_cons (pv 0) (pa_cons (pe_bltn (v := .ty "int") (u := .type "int") (by rfl) T.n_int (by decide +kernel) rfl) pa_nil))))))))
        (pss_one (ps_ret pe_bl))
        pss_nil)
      (pss_cons (ps_if (PW.pt (pw_and (pt_cmpR op_notN (pv 1) pe_non (nomark _)) (pw_and1 (pt_cmpR op_lt (pv 0) (pv 1) (nomark _)))))
        (pss_one (ps_ret pe_bl))
        pss_nil)
      (pss_one (ps_ret (pe_or (pe_cmpR op_isN (pv 2) pe_non (nomark _)) (pe_one (pe_cmpR op_le (pv 0) (pv 2) (nomark _))))))))
      , ?_⟩
    walk_at "r"
    refine ⟨_, _, _, _, _, rfl, .ty _, ty_of_dp hd, kit_ty (kb_bool d), ?_⟩
    refine ⟨_, rfl, ?_⟩
    refine iteB (fun c => ?_) (fun c => ?_)
    · refine iteT ?_
      cases d <;> first | (cases c; done) | exact k
    · walk_at "r"
      refine ⟨_, _, _, _, _, rfl, .ty _, ty_of_dp hd, kit_ty (kb_int d), ?_⟩
      refine ⟨_, rfl, ?_⟩
      refine iteB (fun c2 => ?_) (fun c2 => ?_)
      · cases d <;> first | (cases c; done) | (cases c2; done) | exact k
      · cases d with
        | int i =>
          cases hd
          cases lo with
          | none =>
            walk_at "r"
            cases hi with
            | none =>
              walk_at "r"
              exact k
            | some u =>
              walk_at "r"
              exact k
          | some l =>
            walk_at "r"
            refine iteB (fun c3 => ?_) (fun c3 => ?_)
            · have z : decide (l ≤ i) = false := decide_eq_false (by have := of_decide_eq_true c3; omega)
              have e : whole (.int i) (some l) hi = false := by simp only [whole, z, Bool.false_and]
              rw [e] at k
              exact k
            · have z : decide (l ≤ i) = true := decide_eq_true (by have := of_decide_eq_false c3; omega)
              cases hi with
              | none =>
                walk_at "r"
                have e : whole (.int i) (some l) none = true := by simp only [whole, z, Bool.true_and]
                rw [e] at k
                exact k
              | some u =>
                walk_at "r"
                have e : whole (.int i) (some l) (some u) = decide (i ≤ u) := by simp only [whole, z, Bool.true_and]
                rw [e] at k
                exact k
        | bool _ => cases c
        | _ => cases c2
theorem sc_seq : FnScope ["thing"] ["thing"] (defScope s_seq) := ⟨rfl, rfl, rfl, by decide +kernel, rfl, by decide +kernel, by decide +kernel⟩
theorem ok_seq {f : Addr} {fd : FuncData} (F : Fun K "is_sequence" "is_sequence" s_seq f fd) (T : Bl mg) : FnOk P w K mg base CX0 1 f fd ["thing"] (spSeq K) := by
  refine F.ok sc_seq (fun vs H Q E h => ?_) (fun cdv A outer s H vs Q E hr h => ?_)
  · obtain ⟨x, d, rfl, _⟩ := h
    rfl
  · obtain ⟨x, d, rfl, hd, k⟩ := h
    refine ⟨_,
      (pss_one (ps_ret (pe_callB call_isiT (by rfl) T.n_isinstance (by decide +kernel) (pa_cons (pv 0) (pa_cons (pe_tup (pa_cons (pe_bltn (v := .ty "list") (u := .type "list") (by rfl) T.n_list (by decide +kernel) rfl) (pa_cons (pe_bltn (v := .ty "tuple") (u := .type "tuple") (by rfl) T.n_tuple (by decide +kernel) rfl) pa_nil))) pa_nil)))))
      , ?_⟩
    walk_at "r"
    intro p hp
    refine ⟨_, _, _, _, _, _, rfl, upd_same, .cons (.ty _) (.cons (.ty _) .nil), ty_of_any (hd.same (same_new hp)), ka_seq (kb_list d) (kb_tuple d), ?_⟩
    exact k _ (same_new hp)
theorem sc_couple : FnScope ["thing", "high"] ["thing", "high"] (defScope s_couple) := ⟨rfl, rfl, rfl, by decide +kernel, rfl, by decide +kernel, by decide +kernel⟩
theorem ok_couple {f : Addr} {fd : FuncData} (F : Fun K "is_couple" "is_couple" s_couple f fd) (T : Bl mg) (cis_sequence : Cal P w K mg base CX0 "is_sequence" 1 (spSeq K)) (cis_whole : Cal P w K mg base CX0 "is_whole" 1 (spWhole K)) : FnOk P w K mg base CX0 2 f fd ["thing", "high"] (spCouple K) := by
  refine F.ok sc_couple (fun vs H Q E h => ?_) (fun cdv A outer s H vs Q E hr h => ?_)
  · obtain ⟨x, d, hi, rfl, _⟩ := h
    rfl
  · obtain ⟨x, d, hi, rfl, hd, k⟩ := h
    refine ⟨_,
      (pss_one (ps_ret (pe_and (pe_cal cis_sequence (hr.mono (by decide)) (by rfl) (pa_cons (pv 0) pa_nil)) (pe_and (pe_cmpR op_eq (pe_callB (klen K) (by rfl) T.n_len PySem.boot_len (pa_cons (pv 0) pa_nil)) pe_int (nomark _)) (pe_and (pe_cal cis_whole (hr.mono (by decide)) (by rfl) (pa_cons (pe_ix ix_seq (pv 0) pe_int (fun _ _ => rfl)) (pa_cons pe_int (pa_cons (pv 1) pa_nil)))) (pe_one (pe_cal cis_whole (hr.mono (by decide)) (by rfl) (pa_cons (pe_ix ix_seq (pv 0) pe_int (fun _ _ => rfl)) (pa_cons pe_int (pa_cons (pv 1) pa_nil))))))))))
      , ?_⟩
    walk_at "r"
    refine ⟨_, _, rfl, .dp hd, fun H1 s1 => ⟨_, rfl, ?_⟩⟩
    have hd1 := Dp.same s1 _ _ hd
    refine iteB (fun c => ?_) (fun c => ?_)
    · obtain ⟨p, ys, ds, rfl, hq, ha, hs⟩ := seq_dp hd1 c
      have hlen := DpAll.len ha
      walk_at "r"
      refine ⟨_, _, rfl, hq, ?_⟩
      walk_at "r"
      refine iteB (fun c2 => ?_) (fun c2 => ?_)
      · have l2 : ds.length = 2 := by
          have z := dec_i_t c2
          omega
        obtain ⟨d0, d1, rfl⟩ := two_of l2
        obtain ⟨y0, y1, rfl⟩ := two_of hlen
        cases ha with
        | cons a0 r0 =>
          cases r0 with
          | cons a1 r1 =>
            have e := couple_two (hi := hi) hs
            walk_at "r"
            rcases hq with hq | hq
            · refine .inl ⟨_, _, _, _, rfl, rfl, hq, rfl, ?_⟩
              walk_at "r"
              refine ⟨_, _, some 0, some hi, rfl, a0, _, rfl, ?_⟩
              refine iteB (fun c3 => ?_) (fun c3 => ?_)
              · walk_at "r"
                refine .inl ⟨_, _, _, _, rfl, rfl, hq, rfl, ?_⟩
                walk_at "r"
                refine ⟨_, _, some 0, some hi, rfl, a1, ?_⟩
                have q := k _ s1
                rw [e, c3, Bool.true_and] at q
                exact q
              · have q := k _ s1
                rw [e, c3, Bool.false_and] at q
                exact q
            · refine .inr (.inl ⟨_, _, _, _, rfl, rfl, hq, rfl, ?_⟩)
              walk_at "r"
              refine ⟨_, _, some 0, some hi, rfl, a0, _, rfl, ?_⟩
              refine iteB (fun c3 => ?_) (fun c3 => ?_)
              · walk_at "r"
                refine .inr (.inl ⟨_, _, _, _, rfl, rfl, hq, rfl, ?_⟩)
                walk_at "r"
                refine ⟨_, _, some 0, some hi, rfl, a1, ?_⟩
                have q := k _ s1
                rw [e, c3, Bool.true_and] at q
                exact q
              · have q := k _ s1
                rw [e, c3, Bool.false_and] at q
                exact q
      · have l2 : ds.length ≠ 2 := by
          have z := dec_i_f c2
          omega
        have q := k _ s1
        rw [couple_len hs l2] at q
        exact q
    · have q := k _ s1
      rw [couple_no c] at q
      exact q
end
end Z

set_option Elab.async false
set_option linter.all false
set_option maxRecDepth 100000
namespace Z
open PySem L2
local macro_rules | `(tactic| walk_at "side") => `(tactic| first | omega | (unfold CMul; omega) | (unfold CDiv; omega) | (unfold CDivN; omega) | (unfold CPow; omega) | decide)
local macro_rules | `(tactic| walk_at "lst") => `(tactic| first | exact SqL.of (by assumption) | exact SqL.of upd_same | assumption | exact upd_same)
local macro_rules | `(tactic| walk_at "r1") => `(tactic| first | refine ⟨_, rfl, ?_⟩ | refine ⟨_, _, rfl, rfl, ?_⟩ | refine Or.inl ⟨_, rfl, ?_⟩ | refine And.intro rfl ?_ | refine ⟨_, _, _, _, rfl, rfl, by walk_at "lst", rfl, ?_⟩ | refine ⟨_, _, rfl, Or.inl (by walk_at "lst"), ?_⟩ | refine And.intro (by walk_at "side") ?_)
local macro_rules | `(tactic| walk_at "r") => `(tactic| repeat walk_at "r1")
abbrev s_parts : Stmt := top 13
section
variable {P : Program} {w : World} {K : PySem.W.Frag} {mg : Str → Option Value} {base : Heap}
theorem sc_parts : FnScope ["n", "pairs", "at", "pair"] ["n", "pairs"] (defScope s_parts) := ⟨rfl, rfl, rfl, by decide +kernel, rfl, by decide +kernel, by decide +kernel⟩
/-- the module's two bounds -/
structure Cn (mg : Str → Option Value) : Prop where
  gMOST_STATES : ∃ t, mg "MOST_STATES" = some (.int 24 t)
  gMOST_PAIRS : ∃ t, mg "MOST_PAIRS" = some (.int 600 t)
theorem ok_parts {f C fI : Addr} {fd fdI : FuncData} (F : Fun K "_check_parts" "_check_parts" s_parts f fd) (T : Bl mg) (N : Cn mg) (B : ExC K mg C fI) (FB : Fun K "__init__" "BadOrder.__init__" s_bo fI fdI) (bB : Binds K fdI ["self", "what", "at"] [])
    (cis_sequence : Cal P w K mg base CX0 "is_sequence" 1 (spSeq K)) (cis_whole : Cal P w K mg base CX0 "is_whole" 1 (spWhole K)) (cis_couple : Cal P w K mg base CX0 "is_couple" 2 (spCouple K)) :
    FnOk P w K mg base (L2.CX P w) 3 f fd ["n", "pairs"] (spParts K C) := by
  have GB : FnOk P w K mg base CX0 1 fI fdI ["self", "what", "at"] (spEI C) := ok_bo FB B
  refine F.okX sc_parts (fun vs H Q E h => ?_) (fun cdv A outer s H vs Q E hr h => ?_)
  · obtain ⟨x, y, n, p, rfl, _⟩ := h
    rfl
  · obtain ⟨x, y, n, p, rfl, hn, hp, kok, kbad⟩ := h
    obtain ⟨t24, g24⟩ := N.gMOST_STATES
    obtain ⟨t600, g600⟩ := N.gMOST_PAIRS
    refine ⟨_,
      (pss_cons (ps_if (pt_not (pt_val (pe_cal cis_whole (hr.mono (by decide)) (by rfl) (pa_cons (pv 0) (pa_cons pe_int (pa_cons (pe_glob (v := .int 24) (by rfl) g24 ⟨_, rfl⟩) pa_nil))))))
        (pss_one (ps_raise rfl (takes_of rfl rfl rfl rfl) (pmk_oex B.ox B.iC B.tI GB (hr.mono (by decide)) bB .nil pass0 (by rfl) B.g (pa_cons pe_str (pa_cons pe_int pa_nil)))))
        pss_nil)
      (pss_cons (ps_if (PW.pt (pw_or (pt_not (pt_val (pe_cal cis_sequence (hr.mono (by decide)) (by rfl) (pa_cons (pv 1) pa_nil)))) (pw_or1 (pt_cmpR op_gt (pe_callB (klen K) (by rfl) T.n_len PySem.boot_len (pa_cons (pv 1) pa_nil)) (pe_glob (v := .int 600) (by rfl) g600 ⟨_, rfl⟩) (nomark _)))))
        (pss_one (ps_raise rfl (takes_of rfl rfl rfl rfl) (pmk_oex B.ox B.iC B.tI GB (hr.mono (by decide)) bB .nil pass0 (by rfl) B.g (pa_cons pe_str (pa_cons pe_int pa_nil)))))
        pss_nil)
      (pss_one (ps_for (passes_of rfl) rfl (pi_enumA (by rfl) T.n_enumerate (pa_cons (pv 1) pa_nil)) (pg_tup (by rfl) (pgs_cons (pg_name (i := 2) sc_parts.nd rfl (Or.inl rfl)) (pgs_cons (pg_name (i := 3) sc_parts.nd rfl (Or.inl rfl)) pgs_nil)))
        (pss_one (ps_if (pt_not (pt_val (pe_cal cis_couple (hr.mono (by decide)) (by rfl) (pa_cons (pv 3) (pa_cons (pe_op op_sub (pv 0) pe_int) pa_nil)))))
          (pss_one (ps_raise rfl (takes_of rfl rfl rfl rfl) (pmk_oex B.ox B.iC B.tI GB (hr.mono (by decide)) bB .nil pass0 (by rfl) B.g (pa_cons pe_str (pa_cons (pv 2) pa_nil)))))
          pss_nil))))))
      , ?_⟩
    walk_at "r"
    refine ⟨_, _, some 1, some 24, rfl, hn, _, rfl, ?_⟩
    refine iteB (fun c1 => ?_) (fun c1 => ?_)
    · refine mk2_of fun d H' _ s1 e => kbad "states" 0 ?_ d H' s1 e
      unfold partsFault
      rw [if_neg (by simpa using c1)]
    · have w1 : whole n (some 1) (some 24) = true := by simpa using c1
      obtain ⟨m, rfl⟩ : ∃ m, n = .int m := by
        cases n with
        | int m => exact ⟨m, rfl⟩
        | _ => cases w1
      cases hn
      walk_at "r"
      refine ⟨_, _, rfl, hp, fun H1 s1 => ⟨_, rfl, ?_⟩⟩
      refine iteB (fun c2 => ?_) (fun c2 => ?_)
      · refine iteT ?_
        refine mk2_of fun d H' _ s2 e => kbad "pairs" 0 ?_ d H' (s1.trans s2) e
        unfold partsFault
        rw [if_pos w1, seq_not (by simpa using c2)]
      · have hsq : isSeq p = true := by simpa using c2
        have hp' : Dp K H y p := by
          cases hp with
          | dp h => exact h
          | dk h => cases hsq
        obtain ⟨a, ys, ds, rfl, hq, ha, hs⟩ := seq_dp hp' hsq
        have hlen := DpAll.len ha
        have hq1 : SqL K H1 a ys ∨ SqT K H1 a ys := hq.elim (fun z => .inl (s1.seq z)) (fun z => .inr (Same.sqT s1 z))
        walk_at "r"
        refine ⟨_, _, rfl, hq1, ?_⟩
        walk_at "r"
        refine iteB (fun c3 => ?_) (fun c3 => ?_)
        · refine mk2_of fun d H' _ s2 e => kbad "pairs" 0 ?_ d H' (s1.trans s2) e
          have z := of_decide_eq_true c3
          unfold partsFault
          rw [if_pos w1, hs]
          show (if ds.length ≤ 600 then _ else _) = _
          rw [if_neg (by omega)]
        · have hds : ds.length ≤ 600 := by
            have z := of_decide_eq_false c3
            omega
          have hF : partsFault (.int m) p = pairF (pairFault (m - 1) ds 0) := by
            unfold partsFault
            rw [if_pos w1, hs]
            show (if ds.length ≤ 600 then _ else _) = _
            rw [if_pos hds]
          walk_at "r"
          refine for_enumA hq1 (fun i σ H' => ∃ v w : Option V, σ = [some (.int m), some (.ref a), v, w] ∧ Same H1 H' ∧ i ≤ ds.length ∧ pairFault (m - 1) (ds.drop i) i = pairFault (m - 1) ds 0)
            ⟨none, none, rfl, Same.refl _, Nat.zero_le _, rfl⟩ (fun i σ H' ⟨_, _, _, s2, _⟩ => s2) ?_ ?_ rfl
          · rintro i z T σ H' hz ⟨v, w, rfl, s2, hi, e⟩ hT
            obtain ⟨d, hd, dz⟩ := DpAll.get ha hz
            have hil : i < ds.length := (List.getElem?_eq_some_iff.mp hd).1
            have ed : ds.drop i = d :: ds.drop (i + 1) := by
              rw [List.drop_eq_getElem_cons hil]
              have := (List.getElem?_eq_some_iff.mp hd).2
              rw [this]
            have s3 : Same H (upd H' T (.tup [.int (i : Nat), z])) := (s1.trans s2).trans (same_new hT)
            refine ⟨T, _, rfl, SqT.of upd_same, rfl, _, _, rfl, _, _, rfl, rfl, ?_⟩
            walk_at "r"
            refine ⟨_, _, m - 1, rfl, Dp.same s3 _ _ dz, fun H4 s4 => ⟨_, rfl, ?_⟩⟩
            refine iteB (fun c4 => ?_) (fun c4 => ?_)
            · have c5 : couple d (m - 1) = false := by simpa using c4
              walk_at "r"
              refine mk2_of fun d' H5 _ s5 e5 => kbad "pair" (i : Int) ?_ d' H5 (s3.trans (s4.trans s5)) e5
              rw [hF, ← e, ed]
              unfold pairFault
              rw [c5]
              rfl
            · have c5 : couple d (m - 1) = true := by simpa using c4
              refine ⟨_, _, rfl, s2.trans ((same_new hT).trans s4), hil, ?_⟩
              rw [← e, ed]
              conv => rhs; unfold pairFault
              rw [c5]
              rfl
          · rintro σ H' ⟨v, w, rfl, s2, hi, e⟩
            have hz : ds.drop ys.length = [] := by
              rw [hlen]
              exact List.drop_length
            rw [hz] at e
            exact kok (by rw [hF, ← e]; rfl) _ (s1.trans s2)
end
end Z

set_option Elab.async false
set_option linter.all false
set_option maxRecDepth 100000
namespace Z
open PySem L2
local macro_rules | `(tactic| walk_at "side") => `(tactic| first | omega | (unfold CMul; omega) | (unfold CDiv; omega) | (unfold CDivN; omega) | (unfold CPow; omega) | decide)
local macro_rules | `(tactic| walk_at "lst") => `(tactic| first | exact SqL.of (by assumption) | exact SqL.of upd_same | assumption | exact upd_same)
local macro_rules | `(tactic| walk_at "r1") => `(tactic| first | refine ⟨_, rfl, ?_⟩ | refine ⟨_, _, rfl, rfl, ?_⟩ | refine Or.inl ⟨_, rfl, ?_⟩ | refine And.intro rfl ?_ | refine ⟨_, _, _, _, rfl, rfl, by walk_at "lst", rfl, ?_⟩ | refine ⟨_, _, rfl, Or.inl (by walk_at "lst"), ?_⟩ | refine And.intro (by walk_at "side") ?_)
local macro_rules | `(tactic| walk_at "r") => `(tactic| repeat walk_at "r1")
abbrev s_closed : Stmt := top 14
/-- a new square at p: nothing else is touched -/
structure NewM (H H' : Hp) (p : Addr) (n : Nat) (M : Nat → Nat → Bool) (rs : List Addr) : Prop where
  same : Same H H'
  mat : MatAt H' p n M rs
  free : H p = none
  frees : ∀ r ∈ rs, H r = none
def spClosed (K : PySem.W.Frag) : Sp := fun vs H Q _ => ∃ (n : Nat) (a : Addr) (ys : List V) (ds : List PyData), vs = [.int (n : Int), .ref a] ∧ 1 ≤ n ∧ n ≤ 24 ∧ (SqL K H a ys ∨ SqT K H a ys) ∧ DpAll K H ys ds ∧ (∀ d ∈ ds, couple d ((n : Int) - 1) = true) ∧
  ∀ p rs H', NewM H H' p n (closeM n (initM (ds.map prOf)) n) rs → Q (.ref p) H'
section
variable {P : Program} {w : World} {K : PySem.W.Frag} {mg : Str → Option Value} {base : Heap}
theorem sc_closed : FnScope ["n", "pairs", "less", "middle", "one", "other", "low", "_", "high"] ["n", "pairs"] (defScope s_closed) := ⟨rfl, rfl, rfl, by decide +kernel, rfl, by decide +kernel, by decide +kernel⟩
theorem ok_closed {f : Addr} {fd : FuncData} (F : Fun K "_closed" "_closed" s_closed f fd) (T : Bl mg) : FnOk P w K mg base CX0 1 f fd ["n", "pairs"] (spClosed K) := by
  refine F.ok sc_closed (fun vs H Q E h => ?_) (fun cdv A outer s H vs Q E hr h => ?_)
  · obtain ⟨n, a, ys, ds, rfl, _⟩ := h
    rfl
  · obtain ⟨n, a, ys, ds, rfl, h1, h24, hq, ha, hc, k⟩ := h
    refine ⟨_,
      (pss_cons (ps_set (i := 2) sc_closed.nd rfl (Or.inr rfl) (pe_lc (own := [("_", 7)]) (by rfl) sc_closed.nd (pi_range1 (by rfl) T.n_range (pa_cons (pv 0) pa_nil)) (blkOk_by (own := [("_", 7)]) (by show blkC ["n", "pairs", "less", "middle", "one", "other", "low", "_", "high"] (defScope s_closed) _ _ = true; decide +kernel)) (fun _ _ _ _ _ => (pg_name (i := 7) sc_closed.nd rfl (Or.inl rfl))) (fun _ _ _ _ _ => pts_nil) (fun _ _ _ _ _ => (pe_op op_rep (pe_lst (pa_cons pe_bl pa_nil)) (pv 0)))))
      (pss_cons (ps_for PassesOwn.never rfl (kpi_seqA K (pv 1)) (pg_unA rfl (pgs_cons (pg_name (i := 4) sc_closed.nd rfl (Or.inl rfl)) (pgs_cons (pg_name (i := 5) sc_closed.nd rfl (Or.inl rfl)) pgs_nil)))
        (pss_one (ps_asg pe_bl (pg_sub (pe_ix (kix_list K) (pv 2) (pv 4) (fun _ _ => rfl)) (pv 5) set_list))))
      (pss_cons (ps_for PassesOwn.never rfl (pi_range1 (by rfl) T.n_range (pa_cons (pv 0) pa_nil)) (pg_name (i := 3) sc_closed.nd rfl (Or.inr rfl))
        (pss_one (ps_for PassesOwn.never rfl (pi_range1 (by rfl) T.n_range (pa_cons (pv 0) pa_nil)) (pg_name (i := 6) sc_closed.nd rfl (Or.inr rfl))
          (pss_one (ps_if (pt_val (pe_ix (kix_list K) (pe_ix (kix_list K) (pv 2) (pv 6) (fun _ _ => rfl)) (pv 3) (fun _ _ => rfl)))
            (pss_one (ps_asg (pe_lc (own := [("high", 8)]) (by rfl) sc_closed.nd (pi_range1 (by rfl) T.n_range (pa_cons (pv 0) pa_nil)) (blkOk_by (own := [("high", 8)]) (by show blkC ["n", "pairs", "less", "middle", "one", "other", "low", "_", "high"] (defScope s_closed) _ _ = true; decide +kernel)) (fun _ _ _ _ _ => (pg_name (i := 8) sc_closed.nd rfl (Or.inl rfl))) (fun _ _ _ _ _ => pts_nil) (fun _ _ _ _ _ => (pe_or (pe_ix (kix_list K) (pe_ix (kix_list K) (pv 2) (pv 6) (fun _ _ => rfl)) (pv 8) (fun _ _ => rfl)) (pe_one (pe_ix (kix_list K) (pe_ix (kix_list K) (pv 2) (pv 3) (fun _ _ => rfl)) (pv 8) (fun _ _ => rfl)))))) (pg_sub (pv 2) (pv 6) set_list)))
            pss_nil)))))
      (pss_one (ps_ret (pv 2))))))
      , ?_⟩
    walk_at "r"
    intro D hD
    refine lc_range (lo := 0) (n := n) (fun i H' => ∃ rs : List Addr, Same H H' ∧ H' D = some (.lst (rs.map V.ref)) ∧ rs.length = i ∧ (∀ r ∈ rs, H' r = some (.lst (rowV n fun _ => false))) ∧ rs.Nodup ∧ D ∉ rs ∧ ∀ r ∈ rs, H r = none)
      ⟨[], same_new hD, upd_same, rfl, (fun _ h => nomatch h), .nil, (fun h => nomatch h), (fun _ h => nomatch h)⟩ ?_ ?_
    · rintro i H' hi ⟨rs, s1, eD, el, er, nd, nD, fr⟩
      refine ⟨rfl, ?_⟩
      refine ⟨(by show 1 ≤ sizeLine; decide), fun p hp => ⟨_, rfl, p, (n : Int), _, rfl, rfl, upd_same, by omega, by omega, ?_, fun q hq => ?_⟩⟩
      · show 1 * n ≤ sizeLine
        exact Nat.le_of_lt (small1000 (by omega))
      · have pD : p ≠ D := ne_of_none' eD hp
        have hq' : H' q = none := by
          cases e : H' q with
          | none => rfl
          | some o =>
            rw [upd_ne (ne_of_none e hp), e] at hq
            cases hq
        have qp : q ≠ p := fun z => by
          rw [z, upd_same] at hq
          cases hq
        have qD : q ≠ D := ne_of_none' eD hq'
        have eD2 : upd (upd H' p (.lst [.bl false])) q (.lst (List.replicate (n : Int).toNat [V.bl false]).flatten) D = some (.lst (rs.map V.ref)) := by
          rw [upd_ne qD.symm, upd_ne pD.symm]
          exact eD
        refine ⟨rs.map V.ref, eD2, small1000 (by rw [List.length_map]; omega), rs ++ [q], ?_, ?_, ?_, ?_, ?_, ?_, ?_⟩
        · exact same_mut ((s1.trans (same_new hp)).trans (same_new hq)) hD
        · rw [upd_same, List.map_append]
          rfl
        · rw [List.length_append, el]
          rfl
        · intro r hr
          rcases List.mem_append.mp hr with hr | hr
          · have e := er r hr
            have rD : r ≠ D := fun z => nD (z ▸ hr)
            rw [upd_ne rD, upd_ne (ne_of_none e hq'), upd_ne (ne_of_none e hp)]
            exact e
          · have e : r = q := by simpa using hr
            subst e
            rw [upd_ne qD, upd_same]
            exact congrArg (fun l => some (HO.lst l)) rowV_rep
        · refine List.nodup_append.mpr ⟨nd, by simp, fun a ha b hb => ?_⟩
          have e : b = q := by simpa using hb
          subst e
          exact ne_of_none (er a ha) hq'
        · intro hm
          rcases List.mem_append.mp hm with hm | hm
          · exact nD hm
          · have e : D = q := by simpa using hm
            exact qD e.symm
        · intro r hr
          rcases List.mem_append.mp hr with hr | hr
          · exact fr r hr
          · have e : r = q := by simpa using hr
            subst e
            exact s1.free hq'
    · rintro H1 ⟨rs, s1, eD, el, er, nd, nD, fr⟩
      have M1 : NewM H H1 D n (initM []) rs := ⟨s1, ⟨eD, el, fun x r e => by
        rw [er r (List.mem_of_getElem? e)]
        exact congrArg (fun l => some (HO.lst l)) (rowV_congr fun y _ => by simp [initM]), nd, nD⟩, hD, fr⟩
      clear s1 eD el er nd nD fr
      have hlen := DpAll.len ha
      refine for_seqA (H0 := H) hq (fun i σ H' => ∃ v4 v5 : Option V, σ = [some (.int (n : Int)), some (.ref a), some (.ref D), none, v4, v5, none, none, none] ∧ NewM H H' D n (initM ((ds.map prOf).take i)) rs)
        ⟨none, none, rfl, M1⟩ (fun i σ H' ⟨_, _, _, m⟩ => m.same) ?_ ?_ rfl
      · rintro i z σ H' hz ⟨v4, v5, rfl, m⟩
        obtain ⟨d, hd, dz⟩ := DpAll.get ha hz
        have hc1 := hc d (List.mem_of_getElem? hd)
        obtain ⟨x, y, e1, e2, hx, hy⟩ := couple_ok hc1
        have dz' := Dp.same m.same _ _ dz
        have hxn : x < n := by omega
        have hyn : y < n := by omega
        obtain ⟨r, hr, har, her⟩ := m.mat.get hxn
        have fin : NewM H (upd H' r (.lst ((rowV n (initM ((ds.map prOf).take i) x)).set y (.bl true)))) D n (initM ((ds.map prOf).take (i + 1))) rs := by
          refine ⟨same_mut m.same (m.frees r (List.mem_of_getElem? hr)), ?_, m.free, m.frees⟩
          have q := m.mat.put (b := true) hr hyn
          rw [initM_snoc] at q
          have e3 : (ds.map prOf).take (i + 1) = (ds.map prOf).take i ++ [(x, y)] := by
            rw [List.take_add_one, List.getElem?_map, hd]
            show _ ++ [prOf d] = _
            rw [e2]
          rw [e3]
          exact q
        refine ⟨?_⟩
        obtain ⟨p, zs, es, rfl, hq2, ha2, hs2⟩ := seq_dp dz' (by unfold couple at hc1; cases d <;> first | rfl | cases hc1)
        rw [e1] at hs2
        cases hs2
        cases ha2 with
        | cons a0 r0 =>
          cases r0 with
          | cons a1 r1 =>
            cases r1
            cases a0
            cases a1
            rcases hq2 with hq2 | hq2
            · refine .inr ⟨p, _, rfl, hq2, rfl, _, _, rfl, _, _, rfl, rfl, ?_⟩
              walk_at "r"
              refine ⟨_, _, _, _, rfl, rfl, SqL.of m.mat.top, har, _, rfl, _, _, _, _, rfl, rfl, her, ixN_nat (by rw [rowV_len]; exact hyn), ?_⟩
              exact ⟨some (.int (x : Int)), some (.int (y : Int)), rfl, fin⟩
            · refine .inl ⟨p, _, rfl, hq2, rfl, _, _, rfl, _, _, rfl, rfl, ?_⟩
              walk_at "r"
              refine ⟨_, _, _, _, rfl, rfl, SqL.of m.mat.top, har, _, rfl, _, _, _, _, rfl, rfl, her, ixN_nat (by rw [rowV_len]; exact hyn), ?_⟩
              exact ⟨some (.int (x : Int)), some (.int (y : Int)), rfl, fin⟩
      · rintro σ H' ⟨v4, v5, rfl, m⟩
        have e0 : (ds.map prOf).take ys.length = ds.map prOf := by
          rw [hlen, List.take_of_length_le (by rw [List.length_map]; exact Nat.le_refl _)]
        rw [e0] at m
        clear M1 e0
        walk_at "r"
        refine for_range (lo := 0) (n := n) (fun i σ H2 => ∃ (v3 v4 v5 v6 : Option V) (rs' : List Addr), σ = [some (.int (n : Int)), some (.ref a), some (.ref D), v3, v4, v5, v6, none, none] ∧ NewM H H2 D n (closeM n (initM (ds.map prOf)) i) rs')
          ⟨none, v4, v5, none, rs, rfl, m⟩ ?_ ?_
        · rintro mid σ H2 hmid ⟨v3, v4', v5', v6, rs2, rfl, m2⟩
          walk_at "r"
          refine for_range (lo := 0) (n := n) (fun i σ H3 => ∃ (v6 : Option V) (rs' : List Addr), σ = [some (.int (n : Int)), some (.ref a), some (.ref D), some (.int ((0 : Int) + mid)), v4', v5', v6, none, none] ∧ NewM H H3 D n (relaxes (closeM n (initM (ds.map prOf)) mid) mid i) rs')
            ⟨v6, rs2, rfl, m2⟩ ?_ ?_
          · rintro low σ H3 hlow ⟨v6', rs3, rfl, m3⟩
            have c0 : ∀ z : Nat, (0 : Int) + (z : Nat) = ((z : Nat) : Int) := fun z => by omega
            obtain ⟨r, hr, har, her⟩ := m3.mat.get hlow
            obtain ⟨r2, hr2, har2, her2⟩ := m3.mat.get hmid
            walk_at "r"
            rw [c0, c0]
            refine ⟨_, _, _, _, rfl, rfl, SqL.of m3.mat.top, har, _, rfl, _, _, _, _, rfl, rfl, SqL.of her, rowV_at hmid, _, rfl, ?_⟩
            refine iteB (fun c => ?_) (fun c => ?_)
            · walk_at "r"
              intro D2 hD2
              refine lc_range (lo := 0) (n := n) (fun j H4 => Same H3 H4 ∧ H4 D2 = some (.lst (rowV j fun b => relaxes (closeM n (initM (ds.map prOf)) mid) mid low low b || relaxes (closeM n (initM (ds.map prOf)) mid) mid low mid b)))
                ⟨same_new hD2, upd_same⟩ ?_ ?_
              · rintro j H4 hj ⟨s4, e4⟩
                refine ⟨rfl, ?_⟩
                have fin : ∀ b, b = (relaxes (closeM n (initM (ds.map prOf)) mid) mid low low j || relaxes (closeM n (initM (ds.map prOf)) mid) mid low mid j) →
                    ∃ acc, H4 D2 = some (.lst acc) ∧ acc.length < sizeLine ∧ Same H3 (upd H4 D2 (.lst (acc ++ [V.bl b]))) ∧ upd H4 D2 (.lst (acc ++ [V.bl b])) D2 =
                      some (.lst (rowV (j + 1) fun b => relaxes (closeM n (initM (ds.map prOf)) mid) mid low low b || relaxes (closeM n (initM (ds.map prOf)) mid) mid low mid b)) := fun b eb =>
                  ⟨_, e4, small1000 (by rw [rowV_len]; omega), same_mut s4 hD2, by rw [upd_same, eb]; exact congrArg (fun l => some (HO.lst l)) rowV_snoc⟩
                refine ⟨_, rfl, _, rfl, _, _, _, _, rfl, rfl, SqL.of (s4 _ _ m3.mat.top), har, _, rfl, _, _, _, _, rfl, rfl, SqL.of (s4 _ _ her), (by rw [c0]; exact rowV_at hj), _, rfl, ?_⟩
                refine iteB (fun c2 => ?_) (fun c2 => ?_)
                · exact fin true (by rw [c2]; rfl)
                · refine ⟨_, rfl, _, rfl, _, _, _, _, rfl, rfl, SqL.of (s4 _ _ m3.mat.top), har2, _, rfl, _, _, _, _, rfl, rfl, SqL.of (s4 _ _ her2), (by rw [c0]; exact rowV_at hj), ?_⟩
                  exact fin _ (by rw [c2]; rfl)
              · rintro H4 ⟨s4, e4⟩
                have m4 := m3.mat.same s4
                have nD2 : D2 ∉ rs3 := fun hm => by
                  obtain ⟨x, hx⟩ := List.getElem?_of_mem hm
                  exact ne_of_none (m3.mat.row x D2 hx) hD2 rfl
                have np : D2 ≠ D := ne_of_none' m3.mat.top hD2
                have q := m4.swap (x := low) e4 nD2 np
                walk_at "r"
                refine ⟨_, _, _, _, rfl, rfl, m4.top, ixN_nat (by rw [List.length_map, m4.len]; exact hlow), ?_⟩
                refine ⟨_, rs3.set low D2, rfl, same_mut (m3.same.trans s4) m3.free, ?_, m3.free, fun r hr => ?_⟩
                · have er : relaxes (closeM n (initM (ds.map prOf)) mid) mid (low + 1) = (fun a => if a = low then (fun b => relaxes (closeM n (initM (ds.map prOf)) mid) mid low low b || relaxes (closeM n (initM (ds.map prOf)) mid) mid low mid b) else relaxes (closeM n (initM (ds.map prOf)) mid) mid low a) := by
                    show relax _ mid low = _
                    unfold relax
                    rw [if_pos c]
                  rw [er]
                  exact q
                · rcases List.mem_or_eq_of_mem_set hr with h | h
                  · exact m3.frees r h
                  · rw [h]
                    exact m3.same.free hD2
            · have er : relaxes (closeM n (initM (ds.map prOf)) mid) mid (low + 1) = relaxes (closeM n (initM (ds.map prOf)) mid) mid low := by
                show relax _ mid low = _
                unfold relax
                rw [if_neg (by rw [c]; exact Bool.false_ne_true)]
              refine ⟨_, rs3, rfl, ?_⟩
              rw [er]
              exact m3
          · rintro σ H3 ⟨v6', rs3, rfl, m3⟩
            exact ⟨_, _, _, _, rs3, rfl, m3⟩
        · rintro σ H2 ⟨v3, v4', v5', v6, rs2, rfl, m2⟩
          walk_at "r"
          exact k D rs2 H2 m2
end
end Z

set_option Elab.async false
set_option linter.all false
set_option maxRecDepth 100000
namespace Z
open PySem L2
local macro_rules | `(tactic| walk_at "side") => `(tactic| first | omega | (unfold CMul; omega) | (unfold CDiv; omega) | (unfold CDivN; omega) | (unfold CPow; omega) | decide)
local macro_rules | `(tactic| walk_at "lst") => `(tactic| first | exact SqL.of (by assumption) | exact SqL.of upd_same | assumption | exact upd_same)
local macro_rules | `(tactic| walk_at "r1") => `(tactic| first | refine ⟨_, rfl, ?_⟩ | refine ⟨_, _, rfl, rfl, ?_⟩ | refine Or.inl ⟨_, rfl, ?_⟩ | refine And.intro rfl ?_ | refine ⟨_, _, _, _, rfl, rfl, by walk_at "lst", rfl, ?_⟩ | refine ⟨_, _, rfl, Or.inl (by walk_at "lst"), ?_⟩ | refine And.intro (by walk_at "side") ?_)
local macro_rules | `(tactic| walk_at "r") => `(tactic| repeat walk_at "r1")
abbrev s_cc : Stmt := top 15
abbrev s_cov : Stmt := top 16
def findN (p : Nat → Bool) : Nat → Nat → Option Nat
  | _, 0 => none
  | i, k + 1 => if p i then some i else findN p (i + 1) k
def tagO (s : Str) : Option Nat → Option (Str × Int) | some x => some (s, (x : Int)) | none => none
def orO (a b : Option (Str × Int)) : Option (Str × Int) := match a with | some x => some x | none => b
def closedFault (n : Nat) (M : Nat → Nat → Bool) : Option (Str × Int) := orO (tagO "ring" (findN (fun x => M x x) 0 n)) (tagO "least" (findN (fun x => !M 0 x) 1 (n - 1)))
theorem cf_ring {n x : Nat} {M : Nat → Nat → Bool} (h : findN (fun x => M x x) 0 n = some x) : closedFault n M = some (("ring" : Str), (x : Int)) := by
  unfold closedFault
  rw [h]
  rfl
theorem cf_least {n x : Nat} {M : Nat → Nat → Bool} (h : findN (fun x => M x x) 0 n = none) (h2 : findN (fun x => !M 0 x) 1 (n - 1) = some x) : closedFault n M = some (("least" : Str), (x : Int)) := by
  unfold closedFault
  rw [h, h2]
  rfl
theorem cf_none {n : Nat} {M : Nat → Nat → Bool} (h : findN (fun x => M x x) 0 n = none) (h2 : findN (fun x => !M 0 x) 1 (n - 1) = none) : closedFault n M = none := by
  unfold closedFault
  rw [h, h2]
  rfl
theorem findN_step {p : Nat → Bool} {i k : Nat} (h : p i = false) : findN p i (k + 1) = findN p (i + 1) k := by
  show (if p i = true then some i else findN p (i + 1) k) = _
  rw [h]
  rfl
theorem findN_hit {p : Nat → Bool} {i k : Nat} (h : p i = true) : findN p i (k + 1) = some i := by
  show (if p i = true then some i else findN p (i + 1) k) = _
  rw [h]
  rfl
def spCC (C : Addr) : Sp := fun vs H Q E => ∃ (p : Addr) (n : Nat) (M : Nat → Nat → Bool) (rs : List Addr), vs = [.ref p] ∧ 1 ≤ n ∧ n ≤ 24 ∧ MatAt H p n M rs ∧
  (closedFault n M = none → Q .non H) ∧ (∀ what at_, closedFault n M = some (what, at_) → EBO C H (.str what) (.int at_) E)
section
variable {P : Program} {w : World} {K : PySem.W.Frag} {mg : Str → Option Value} {base : Heap}
theorem sc_cc : FnScope ["less", "state"] ["less"] (defScope s_cc) := ⟨rfl, rfl, rfl, by decide +kernel, rfl, by decide +kernel, by decide +kernel⟩
theorem ok_cc {f C fI : Addr} {fd fdI : FuncData} (F : Fun K "_check_closed" "_check_closed" s_cc f fd) (T : Bl mg) (B : ExC K mg C fI) (FB : Fun K "__init__" "BadOrder.__init__" s_bo fI fdI) (bB : Binds K fdI ["self", "what", "at"] []) :
    FnOk P w K mg base (L2.CX P w) 3 f fd ["less"] (spCC C) := by
  have GB : FnOk P w K mg base CX0 1 fI fdI ["self", "what", "at"] (spEI C) := ok_bo FB B
  refine F.okX sc_cc (fun vs H Q E h => ?_) (fun cdv A outer s H vs Q E hr h => ?_)
  · obtain ⟨p, n, M, rs, rfl, _⟩ := h
    rfl
  · obtain ⟨p, n, M, rs, rfl, h1, h24, m, kok, kbad⟩ := h
    have c0 : ∀ z : Nat, (0 : Int) + (z : Nat) = ((z : Nat) : Int) := fun z => by omega
    have ln : (rs.map V.ref).length = n := by rw [List.length_map, m.len]
    have hq : SqL K H p (rs.map V.ref) ∨ SqT K H p (rs.map V.ref) := .inl (SqL.of m.top)
    refine ⟨_,
      (pss_cons (ps_for (passes_of rfl) rfl (pi_range1 (by rfl) T.n_range (pa_cons (pe_callB (klen K) (by rfl) T.n_len PySem.boot_len (pa_cons (pv 0) pa_nil)) pa_nil)) (pg_name (i := 1) sc_cc.nd rfl (Or.inl rfl))
        (pss_one (ps_if (pt_val (pe_ix (kix_list K) (pe_ix (kix_list K) (pv 0) (pv 1) (fun _ _ => rfl)) (pv 1) (fun _ _ => rfl)))
          (pss_one (ps_raise rfl (takes_of rfl rfl rfl rfl) (pmk_oex B.ox B.iC B.tI GB (hr.mono (by decide)) bB .nil pass0 (by rfl) B.g (pa_cons pe_str (pa_cons (pv 1) pa_nil)))))
          pss_nil)))
      (pss_one (ps_for (passes_of rfl) rfl (pi_range2 (by rfl) T.n_range (pa_cons pe_int (pa_cons (pe_callB (klen K) (by rfl) T.n_len PySem.boot_len (pa_cons (pv 0) pa_nil)) pa_nil))) (pg_name (i := 1) sc_cc.nd rfl (Or.inl rfl))
        (pss_one (ps_if (pt_not (pt_val (pe_ix (kix_list K) (pe_ix (kix_list K) (pv 0) pe_int (fun _ _ => rfl)) (pv 1) (fun _ _ => rfl))))
          (pss_one (ps_raise rfl (takes_of rfl rfl rfl rfl) (pmk_oex B.ox B.iC B.tI GB (hr.mono (by decide)) bB .nil pass0 (by rfl) B.g (pa_cons pe_str (pa_cons (pv 1) pa_nil)))))
          pss_nil)))))
      , ?_⟩
    walk_at "r"
    refine ⟨_, _, rfl, hq, ?_⟩
    rw [ln]
    walk_at "r"
    refine for_range (lo := 0) (n := n) (fun i σ H' => ∃ v : Option V, σ = [some (.ref p), v] ∧ H = H' ∧ i ≤ n ∧ findN (fun x => M x x) i (n - i) = findN (fun x => M x x) 0 n) ⟨none, rfl, rfl, Nat.zero_le _, rfl⟩ ?_ ?_
    · rintro i σ H' hi ⟨v, rfl, rfl, hin, e⟩
      obtain ⟨r, hr1, har, her⟩ := m.get hi
      have ek : n - i = (n - (i + 1)) + 1 := by omega
      rw [c0]
      walk_at "r"
      refine ⟨_, _, _, _, rfl, rfl, SqL.of m.top, har, _, rfl, _, _, _, _, rfl, rfl, SqL.of her, rowV_at hi, _, rfl, ?_⟩
      refine iteB (fun c => ?_) (fun c => ?_)
      · walk_at "r"
        refine mk2_of fun d' H5 _ s5 e5 => kbad "ring" (i : Int) (cf_ring ?_) d' H5 s5 e5
        rw [← e, ek]
        exact findN_hit (p := fun x => M x x) c
      · refine ⟨_, rfl, rfl, hi, ?_⟩
        rw [← e, ek]
        exact (findN_step (p := fun x => M x x) c).symm
    · rintro σ H' ⟨v, rfl, rfl, hin, e⟩
      have e0 : findN (fun x => M x x) 0 n = none := by
        rw [← e, Nat.sub_self]
        rfl
      walk_at "r"
      refine ⟨_, _, rfl, hq, ?_⟩
      rw [ln]
      walk_at "r"
      have en : ((n : Int) - 1).toNat = n - 1 := by omega
      have h0n : 0 < n := by omega
      obtain ⟨r0, hr0, har0, her0⟩ := m.get h0n
      have c1 : ∀ z : Nat, (1 : Int) + (z : Nat) = ((1 + z : Nat) : Int) := fun z => by omega
      refine ⟨_, _, rfl, ⟨by omega, by omega, by omega, by omega⟩, ?_⟩
      rw [en]
      refine for_range (lo := 1) (n := n - 1) (fun i σ H' => ∃ v : Option V, σ = [some (.ref p), v] ∧ H = H' ∧ i ≤ n - 1 ∧ findN (fun x => !M 0 x) (1 + i) (n - 1 - i) = findN (fun x => !M 0 x) 1 (n - 1)) ⟨v, rfl, rfl, Nat.zero_le _, rfl⟩ ?_ ?_
      · rintro i σ H' hi ⟨v, rfl, rfl, hin2, e2⟩
        have ek : n - 1 - i = (n - 1 - (i + 1)) + 1 := by omega
        rw [c1]
        walk_at "r"
        refine ⟨_, _, _, _, rfl, rfl, SqL.of m.top, har0, _, rfl, _, _, _, _, rfl, rfl, SqL.of her0, rowV_at (show 1 + i < n by omega), _, rfl, ?_⟩
        refine iteB (fun c => ?_) (fun c => ?_)
        · walk_at "r"
          refine mk2_of fun d' H5 _ s5 e5 => kbad "least" ((1 + i : Nat) : Int) (cf_least e0 ?_) d' H5 s5 e5
          rw [← e2, ek]
          exact findN_hit (p := fun x => !M 0 x) c
        · refine ⟨_, rfl, rfl, by omega, ?_⟩
          rw [← e2, ek]
          exact (findN_step (p := fun x => !M 0 x) c).symm
      · rintro σ H' ⟨v, rfl, rfl, hin2, e2⟩
        refine kok (cf_none e0 ?_)
        rw [← e2, Nat.sub_self]
        rfl
def covB (n : Nat) (M : Nat → Nat → Bool) (low high : Nat) : Bool := M low high && !(((List.range n).map fun mid => M low mid && M mid high).any id)
def spCov : Sp := fun vs H Q _ => ∃ (p : Addr) (n : Nat) (M : Nat → Nat → Bool) (rs : List Addr) (low high : Nat), vs = [.ref p, .int (low : Int), .int (high : Int)] ∧ low < n ∧ high < n ∧ n ≤ 24 ∧ MatAt H p n M rs ∧
  ∀ H', Same H H' → Q (.bl (covB n M low high)) H'
theorem sc_cov : FnScope ["less", "low", "high", "mid"] ["less", "low", "high"] (defScope s_cov) := ⟨rfl, rfl, rfl, by decide +kernel, rfl, by decide +kernel, by decide +kernel⟩
theorem ok_cov {f : Addr} {fd : FuncData} (F : Fun K "_is_cover" "_is_cover" s_cov f fd) (T : Bl mg) : FnOk P w K mg base CX0 1 f fd ["less", "low", "high"] spCov := by
  refine F.ok sc_cov (fun vs H Q E h => ?_) (fun cdv A outer s H vs Q E hr h => ?_)
  · obtain ⟨p, n, M, rs, low, high, rfl, _⟩ := h
    rfl
  · obtain ⟨p, n, M, rs, low, high, rfl, hl, hh, h24, m, k⟩ := h
    have c0 : ∀ z : Nat, (0 : Int) + (z : Nat) = ((z : Nat) : Int) := fun z => by omega
    have ln : (rs.map V.ref).length = n := by rw [List.length_map, m.len]
    obtain ⟨r, hr1, har, her⟩ := m.get hl
    refine ⟨_,
      (pss_one (ps_ret (pe_and (pe_ix (kix_list K) (pe_ix (kix_list K) (pv 0) (pv 1) (fun _ _ => rfl)) (pv 2) (fun _ _ => rfl)) (pe_one (pe_not (pe_callB (kany K rfl) (by rfl) T.n_any (by decide +kernel) (pa_cons (pe_lc (own := [("mid", 3)]) (by rfl) sc_cov.nd (pi_range1 (by rfl) T.n_range (pa_cons (pe_callB (klen K) (by rfl) T.n_len PySem.boot_len (pa_cons (pv 0) pa_nil)) pa_nil)) (blkOk_by (own := [("mid", 3)]) (by show blkC ["less", "low", "high", "mid"] (defScope s_cov) _ _ = true; decide +kernel)) (fun _ _ _ _ _ => (pg_name (i := 3) sc_cov.nd rfl (Or.inl rfl))) (fun _ _ _ _ _ => pts_nil) (fun _ _ _ _ _ => (pe_and (pe_ix (kix_list K) (pe_ix (kix_list K) (pv 0) (pv 1) (fun _ _ => rfl)) (pv 3) (fun _ _ => rfl)) (pe_one (pe_ix (kix_list K) (pe_ix (kix_list K) (pv 0) (pv 3) (fun _ _ => rfl)) (pv 2) (fun _ _ => rfl)))))) pa_nil)))))))
      , ?_⟩
    walk_at "r"
    refine ⟨_, _, _, _, rfl, rfl, SqL.of m.top, har, _, rfl, _, _, _, _, rfl, rfl, SqL.of her, rowV_at hh, _, rfl, ?_⟩
    refine iteB (fun c => ?_) (fun c => ?_)
    · walk_at "r"
      refine ⟨_, _, rfl, .inl (SqL.of m.top), ?_⟩
      rw [ln]
      walk_at "r"
      intro D hD
      refine lc_range (lo := 0) (n := n) (fun j H4 => Same H H4 ∧ H4 D = some (.lst (rowV j fun mid => M low mid && M mid high))) ⟨same_new hD, upd_same⟩ ?_ ?_
      · rintro j H4 hj ⟨s4, e4⟩
        refine ⟨rfl, ?_⟩
        obtain ⟨rj, hrj, harj, herj⟩ := m.get hj
        have fin : ∀ b, b = (M low j && M j high) → ∃ acc, H4 D = some (.lst acc) ∧ acc.length < sizeLine ∧ Same H (upd H4 D (.lst (acc ++ [V.bl b]))) ∧
            upd H4 D (.lst (acc ++ [V.bl b])) D = some (.lst (rowV (j + 1) fun mid => M low mid && M mid high)) := fun b eb =>
          ⟨_, e4, small1000 (by rw [rowV_len]; omega), same_mut s4 hD, by rw [upd_same, eb]; exact congrArg (fun l => some (HO.lst l)) rowV_snoc⟩
        refine ⟨_, rfl, _, rfl, _, _, _, _, rfl, rfl, SqL.of (s4 _ _ m.top), har, _, rfl, _, _, _, _, rfl, rfl, SqL.of (s4 _ _ her), (by rw [c0]; exact rowV_at hj), _, rfl, ?_⟩
        refine iteB (fun c2 => ?_) (fun c2 => ?_)
        · refine ⟨_, rfl, _, rfl, _, _, _, _, rfl, rfl, SqL.of (s4 _ _ m.top), (by rw [c0]; exact harj), _, rfl, _, _, _, _, rfl, rfl, SqL.of (s4 _ _ herj), rowV_at hh, ?_⟩
          exact fin _ (by rw [c2]; rfl)
        · exact fin false (by rw [c2]; rfl)
      · rintro H4 ⟨s4, e4⟩
        have el : rowV n (fun mid => M low mid && M mid high) = ((List.range n).map fun mid => M low mid && M mid high).map V.bl := by
          unfold rowV
          rw [List.map_map]
          rfl
        refine ⟨D, _, rfl, SqL.of (by rw [e4, el]), _, rfl, ?_⟩
        have q := k H4 s4
        unfold covB at q
        rw [c, Bool.true_and] at q
        exact q
    · have q := k H (Same.refl _)
      unfold covB at q
      rw [c, Bool.false_and] at q
      exact q
end
end Z

set_option Elab.async false
set_option linter.all false
set_option maxRecDepth 100000
set_option maxHeartbeats 3300000
namespace Z
open PySem L2
local macro_rules | `(tactic| walk_at "side") => `(tactic| first | omega | (unfold CMul; omega) | (unfold CDiv; omega) | (unfold CDivN; omega) | (unfold CPow; omega) | decide)
local macro_rules | `(tactic| walk_at "lst") => `(tactic| first | exact SqL.of (by assumption) | exact SqL.of upd_same | assumption | exact upd_same)
local macro_rules | `(tactic| walk_at "r1") => `(tactic| first | refine ⟨_, rfl, ?_⟩ | refine ⟨_, _, rfl, rfl, ?_⟩ | refine Or.inl ⟨_, rfl, ?_⟩ | refine And.intro rfl ?_ | refine ⟨_, _, _, _, rfl, rfl, by walk_at "lst", rfl, ?_⟩ | refine ⟨_, _, rfl, Or.inl (by walk_at "lst"), ?_⟩ | refine And.intro (by walk_at "side") ?_)
local macro_rules | `(tactic| walk_at "r") => `(tactic| repeat walk_at "r1")
abbrev s_oi : Stmt := inClass (top 17) 0
structure OrC (K : PySem.W.Frag) (C : Addr) : Prop where
  cl : Cls K C
  a1 : NoAttr K C "n"
  a2 : NoAttr K C "_above"
  a3 : NoAttr K C "_below"
  a4 : NoAttr K C "_covers"
  a5 : NoAttr K C "_ends"
  a6 : NoAttr K C "edges"
def prsOf (p : PyData) : List (Nat × Nat) := match seqOf p with | some ds => ds.map prOf | none => []
def clM (n : Nat) (p : PyData) : Nat → Nat → Bool := closeM n (initM (prsOf p)) n
def natOf (d : PyData) : Nat := match d with | .int m => m.toNat | _ => 0
def ordFault (n p : PyData) : Option (Str × Int) := orO (partsFault n p) (closedFault (natOf n) (clM (natOf n) p))
def spOI (K : PySem.W.Frag) (C BO : Addr) : Sp := fun vs H Q E => ∃ (o dx : Addr) (x y : V) (n p : PyData), vs = [.ref o, x, y] ∧ H o = some (.ins C dx []) ∧ Dp K H x n ∧ AnyD K H y p ∧
  (ordFault n p = none → ∀ H', Keep o H H' → OrdF H' o C dx (natOf n) (clM (natOf n) p) (covB (natOf n) (clM (natOf n) p)) → Q .non H') ∧
  (∀ what at_, ordFault n p = some (what, at_) → EBO BO H (.str what) (.int at_) E)
section
variable {P : Program} {w : World} {K : PySem.W.Frag} {mg : Str → Option Value} {base : Heap}
theorem pf_all {high : Int} : ∀ {ds : List PyData} {i : Nat}, pairFault high ds i = none → ∀ d ∈ ds, couple d high = true
  | [], _, _, d, hd => nomatch hd
  | e :: ds, i, h, d, hd => by
    unfold pairFault at h
    by_cases c : couple e high = true
    · rw [if_pos c] at h
      rcases List.mem_cons.mp hd with rfl | hd
      · exact c
      · exact pf_all h d hd
    · rw [if_neg c] at h
      cases h
theorem parts_ok {n p : PyData} (h : partsFault n p = none) : ∃ m : Nat, n = .int (m : Int) ∧ 1 ≤ m ∧ m ≤ 24 ∧ ∃ ds, seqOf p = some ds ∧ ∀ d ∈ ds, couple d ((m : Int) - 1) = true := by
  unfold partsFault at h
  by_cases hw : whole n (some 1) (some 24) = true
  · rw [if_pos hw] at h
    cases n with
    | int z =>
      simp only [whole, Bool.and_eq_true, decide_eq_true_eq] at hw
      have ez : ((z.toNat : Nat) : Int) = z := by omega
      refine ⟨z.toNat, by rw [ez], by omega, by omega, ?_⟩
      cases hs : seqOf p with
      | none =>
        rw [hs] at h
        cases h
      | some ds =>
        rw [hs] at h
        refine ⟨ds, rfl, ?_⟩
        have h2 : (if ds.length ≤ 600 then pairF (pairFault (z - 1) ds 0) else some ("pairs", 0)) = none := h
        by_cases hl : ds.length ≤ 600
        · rw [if_pos hl] at h2
          rw [ez]
          cases hf : pairFault (z - 1) ds 0 with
          | none => exact pf_all hf
          | some i =>
            rw [hf] at h2
            cases h2
        · rw [if_neg hl] at h2
          cases h2
    | _ => cases hw
  · rw [if_neg hw] at h
    cases h
theorem isSeq_of {p : PyData} {ds : List PyData} (h : seqOf p = some ds) : isSeq p = true := by
  cases p <;> first | rfl | cases h
theorem sc_oi : FnScope ["self", "n", "pairs", "less", "states", "low", "high", "state", "cover"] ["self", "n", "pairs"] (defScope s_oi) := ⟨rfl, rfl, rfl, by decide +kernel, rfl, by decide +kernel, by decide +kernel⟩
theorem ok_oi {f C BO : Addr} {fd : FuncData} (F : Fun K "__init__" "Order.__init__" s_oi f fd) (T : Bl mg) (OC : OrC K C) (c_check_parts : Cal P w K mg base (L2.CX P w) "_check_parts" 3 (spParts K BO))
    (c_closed : Cal P w K mg base CX0 "_closed" 1 (spClosed K)) (c_check_closed : Cal P w K mg base (L2.CX P w) "_check_closed" 3 (spCC BO)) (c_is_cover : Cal P w K mg base CX0 "_is_cover" 1 spCov) :
    FnOk P w K mg base (L2.CX P w) 4 f fd ["self", "n", "pairs"] (spOI K C BO) := by
  refine F.okX sc_oi (fun vs H Q E h => ?_) (fun cdv A outer s H vs Q E hr h => ?_)
  · obtain ⟨o, dx, x, y, n, p, rfl, _⟩ := h
    rfl
  · obtain ⟨o, dx, x, y, n, p, rfl, ho, hn, hp, kok, kbad⟩ := h
    refine ⟨_,
      (pss_cons (ps_expr (pe_calX c_check_parts (hr.mono (by decide)) (by rfl) (passes_call (takes_of rfl rfl rfl rfl) (fun _ _ _ _ h => h)) (pa_cons (pv 1) (pa_cons (pv 2) pa_nil))))
      (pss_cons (ps_set (i := 3) sc_oi.nd rfl (Or.inr rfl) (pe_cal c_closed (hr.mono (by decide)) (by rfl) (pa_cons (pv 1) (pa_cons (pv 2) pa_nil))))
      (pss_cons (ps_expr (pe_calX c_check_closed (hr.mono (by decide)) (by rfl) (passes_call (takes_of rfl rfl rfl rfl) (fun _ _ _ _ h => h)) (pa_cons (pv 3) pa_nil)))
      (pss_cons (ps_set (i := 4) sc_oi.nd rfl (Or.inr rfl) (pe_listRg rfl (by rfl) T.n_list (prg_1 (by rfl) T.n_range (pv 1))))
      (pss_cons (ps_fld (pv 0) (pv 1) rfl)
      (pss_cons (ps_fld (pv 0) (pe_callTy (ktuple_of K) (by rfl) T.n_tuple (by decide +kernel) (pa_cons (pe_lc (own := [("low", 5)]) (by rfl) sc_oi.nd (kpi_list K (pv 4)) (blkOk_by (own := [("low", 5)]) (by show blkC ["self", "n", "pairs", "less", "states", "low", "high", "state", "cover"] (defScope s_oi) _ _ = true; decide +kernel)) (fun _ _ _ _ _ => (pg_name (i := 5) sc_oi.nd rfl (Or.inr rfl))) (fun _ _ _ _ _ => pts_nil) (fun _ _ _ _ _ => (pe_callTy (ktuple_of K) (by rfl) T.n_tuple (by decide +kernel) (pa_cons (pe_lc (own := [("high", 6)]) (by rfl) sc_oi.nd (kpi_list K (pv 4)) (blkOk_by (own := [("high", 6)]) (by show blkC ["self", "n", "pairs", "less", "states", "low", "high", "state", "cover"] (relS _ ((defScope s_oi))) _ _ = true; decide +kernel)) (fun _ _ _ _ _ => (pg_name (i := 6) sc_oi.nd rfl (Or.inl rfl))) (fun _ _ _ _ _ => (pts_one (kt_truth K (pe_ix (kix_list K) (pe_ix (kix_list K) (pv 3) (pv 5) (fun _ _ => rfl)) (pv 6) (fun _ _ => rfl)) (by intro _; rfl)))) (fun _ _ _ _ _ => (pv 6))) pa_nil)))) pa_nil)) rfl)
      (pss_cons (ps_fld (pv 0) (pe_callTy (ktuple_of K) (by rfl) T.n_tuple (by decide +kernel) (pa_cons (pe_lc (own := [("high", 6)]) (by rfl) sc_oi.nd (kpi_list K (pv 4)) (blkOk_by (own := [("high", 6)]) (by show blkC ["self", "n", "pairs", "less", "states", "low", "high", "state", "cover"] (defScope s_oi) _ _ = true; decide +kernel)) (fun _ _ _ _ _ => (pg_name (i := 6) sc_oi.nd rfl (Or.inr rfl))) (fun _ _ _ _ _ => pts_nil) (fun _ _ _ _ _ => (pe_callTy (ktuple_of K) (by rfl) T.n_tuple (by decide +kernel) (pa_cons (pe_lc (own := [("low", 5)]) (by rfl) sc_oi.nd (kpi_list K (pv 4)) (blkOk_by (own := [("low", 5)]) (by show blkC ["self", "n", "pairs", "less", "states", "low", "high", "state", "cover"] (relS _ ((defScope s_oi))) _ _ = true; decide +kernel)) (fun _ _ _ _ _ => (pg_name (i := 5) sc_oi.nd rfl (Or.inl rfl))) (fun _ _ _ _ _ => (pts_one (kt_truth K (pe_ix (kix_list K) (pe_ix (kix_list K) (pv 3) (pv 5) (fun _ _ => rfl)) (pv 6) (fun _ _ => rfl)) (by intro _; rfl)))) (fun _ _ _ _ _ => (pv 5))) pa_nil)))) pa_nil)) rfl)
      (pss_cons (ps_fld (pv 0) (pe_callTy (ktuple_of K) (by rfl) T.n_tuple (by decide +kernel) (pa_cons (pe_lc (own := [("low", 5)]) (by rfl) sc_oi.nd (kpi_list K (pv 4)) (blkOk_by (own := [("low", 5)]) (by show blkC ["self", "n", "pairs", "less", "states", "low", "high", "state", "cover"] (defScope s_oi) _ _ = true; decide +kernel)) (fun _ _ _ _ _ => (pg_name (i := 5) sc_oi.nd rfl (Or.inr rfl))) (fun _ _ _ _ _ => pts_nil) (fun _ _ _ _ _ => (pe_callTy (ktuple_of K) (by rfl) T.n_tuple (by decide +kernel) (pa_cons (pe_lc (own := [("high", 6)]) (by rfl) sc_oi.nd (kpi_list K (pv 4)) (blkOk_by (own := [("high", 6)]) (by show blkC ["self", "n", "pairs", "less", "states", "low", "high", "state", "cover"] (relS _ ((defScope s_oi))) _ _ = true; decide +kernel)) (fun _ _ _ _ _ => (pg_name (i := 6) sc_oi.nd rfl (Or.inl rfl))) (fun _ _ _ _ _ => (pts_one (kt_truth K (pe_cal c_is_cover (hr.mono (by decide)) (by rfl) (pa_cons (pv 3) (pa_cons (pv 5) (pa_cons (pv 6) pa_nil)))) (by intro _; rfl)))) (fun _ _ _ _ _ => (pv 6))) pa_nil)))) pa_nil)) rfl)
      (pss_cons (ps_fld (pv 0) (pe_callTy (ktuple_of K) (by rfl) T.n_tuple (by decide +kernel) (pa_cons (pe_lc (own := [("state", 7)]) (by rfl) sc_oi.nd (kpi_list K (pv 4)) (blkOk_by (own := [("state", 7)]) (by show blkC ["self", "n", "pairs", "less", "states", "low", "high", "state", "cover"] (defScope s_oi) _ _ = true; decide +kernel)) (fun _ _ _ _ _ => (pg_name (i := 7) sc_oi.nd rfl (Or.inl rfl))) (fun _ _ _ _ _ => (pts_one (pt_not (kt_truth K (pe_ix (kix_tup K) (kfld K (pv 0) rfl) (pv 7) (fun _ _ => rfl)) (by intro _; rfl))))) (fun _ _ _ _ _ => (pv 7))) pa_nil)) rfl)
      (pss_one (ps_fld (pv 0) (pe_callTy (ktuple_of K) (by rfl) T.n_tuple (by decide +kernel) (pa_cons (pe_lc2 (own := [("state", 7), ("cover", 8)]) (vs1 := [8]) (by rfl) sc_oi.nd (kpi_list K (pv 4)) (blkOk_by (own := [("state", 7), ("cover", 8)]) (by show blkC ["self", "n", "pairs", "less", "states", "low", "high", "state", "cover"] (defScope s_oi) _ _ = true; decide +kernel)) (by decide) (fun _ _ _ _ _ => (pg_name (i := 7) sc_oi.nd rfl (Or.inl rfl))) (fun _ _ _ _ _ => pts_nil) (fun _ _ _ _ _ => (kpi_tup K (pe_ix (kix_tup K) (kfld K (pv 0) rfl) (pv 7) (fun _ _ => rfl)))) (fun _ _ _ _ _ => (pg_name (i := 8) sc_oi.nd rfl (Or.inl rfl))) (fun _ _ _ _ _ => pts_nil) (fun _ _ _ _ _ => (pe_tup (pa_cons (pv 7) (pa_cons (pv 8) pa_nil))))) pa_nil)) rfl)))))))))))
      , ?_⟩
    walk_at "r"
    refine ⟨_, _, n, p, rfl, hn, hp, fun hF H1 s1 => ?_, fun what at_ hF => kbad what at_ (by unfold ordFault; rw [hF]; rfl)⟩
    obtain ⟨m, rfl, h1, h24, ds, hs, hcp⟩ := parts_ok hF
    cases hn
    have hsq := isSeq_of hs
    have hp' : Dp K H1 y p := by
      cases hp with
      | dp h => exact Dp.same s1 _ _ h
      | dk h => cases hsq
    obtain ⟨a, ys, ds', rfl, hq, ha, hs'⟩ := seq_dp hp' hsq
    rw [hs] at hs'
    cases hs'
    have ec : clM m p = closeM m (initM (ds.map prOf)) m := by
      unfold clM prsOf
      rw [hs]
    have eF : ordFault (.int (m : Int)) p = closedFault m (clM m p) := by
      unfold ordFault
      rw [hF]
      rfl
    rw [eF] at kok kbad
    change closedFault m (clM m p) = none → ∀ H', Keep o H H' → OrdF H' o C dx m (clM m p) (covB m (clM m p)) → Q .non H' at kok
    walk_at "r"
    refine ⟨m, a, ys, ds, rfl, h1, h24, hq, ha, hcp, fun D rs H2 nm0 => ?_⟩
    have nm : NewM H1 H2 D m (clM m p) rs := by
      rw [ec]
      exact nm0
    clear nm0 ec eF
    generalize clM m p = M at kok kbad nm
    walk_at "r"
    refine ⟨D, m, M, rs, rfl, h1, h24, nm.mat, fun hC => ?_, fun what at_ hC d H' s2 e => kbad what at_ hC d H' ((s1.trans nm.same).trans s2) e⟩
    walk_at "r"
    refine ⟨RgOk.of_le (by omega) (by omega) (by omega) (by omega), fun st hst => ?_⟩
    have s3 : Same H (upd H2 st (.lst (rgV 0 (m : Int)))) := (s1.trans nm.same).trans (same_new hst)
    have eS : upd H2 st (.lst (rgV 0 (m : Int))) st = some (.lst (natsV (List.range m))) := by
      rw [upd_same, rg_nats]
    have mS := nm.mat.same (same_new (o := .lst (rgV 0 (m : Int))) hst)
    have ho3 := s3 _ _ ho
    generalize upd H2 st (.lst (rgV 0 (m : Int))) = H3 at s3 eS mS ho3 ⊢
    walk_at "r"
    refine ⟨o, C, dx, [], rfl, ho3, OC.cl, OC.a1, (by show 0 < 1000; decide), ?_⟩
    have k4 : Keep o H3 (upd H3 o (.ins C dx (putF "n" (.int (m : Int)) []))) := Keep.upd
    have h4 : upd H3 o (.ins C dx (putF "n" (.int (m : Int)) [])) o = some (.ins C dx (putF "n" (.int (m : Int)) [])) := upd_same
    have l4 : (putF "n" (.int (m : Int)) []).length ≤ 1 := putF_len _ _ _
    have st4 := keep_lst k4 ho3 eS
    have m4 := mS.keep k4 ho3
    generalize hf4 : putF "n" (.int (m : Int)) [] = f4 at h4 l4 k4 st4 m4 ⊢
    generalize upd H3 o (.ins C dx f4) = H4 at h4 k4 st4 m4 ⊢
    refine te_tups (n := m) (st := st) (p := M) (by omega) (SqL.of st4) rfl (fun y => rfl) (fun x y => rfl) (fun x => rfl) (fun x => rfl) (fun x y H' Qb hx hy s q => ?_) (fun pa ra Ha sa na la ea ta => ?_)
    · obtain ⟨r, hr1, har, her⟩ := m4.get hx
      exact ⟨_, rfl, _, rfl, _, _, _, _, rfl, rfl, SqL.of (s _ _ m4.top), har, _, rfl, _, _, _, _, rfl, rfl, SqL.of (s _ _ her), rowV_at hy, _, rfl, q H' (Same.refl _)⟩
    refine ⟨_, rfl, o, C, dx, f4, rfl, sa _ _ h4, OC.cl, OC.a2, (by show _ < 1000; omega), ?_⟩
    have oa := sa _ _ h4
    have k5 : Keep o H3 (upd Ha o (.ins C dx (putF "_above" (.ref pa) f4))) := (k4.trans (Keep.of_same sa)).trans Keep.upd
    have u5 : Keep o Ha (upd Ha o (.ins C dx (putF "_above" (.ref pa) f4))) := Keep.upd
    have h5 : upd Ha o (.ins C dx (putF "_above" (.ref pa) f4)) o = some (.ins C dx (putF "_above" (.ref pa) f4)) := upd_same
    have l5 : (putF "_above" (.ref pa) f4).length ≤ 2 := Nat.le_trans (putF_len _ _ _) (by omega)
    have st5 := keep_lst u5 oa (sa _ _ st4)
    have m5 := (m4.same sa).keep u5 oa
    have ea5 := keep_tup u5 oa ea
    have ta5 := ta.keep u5 oa
    clear k4 h4 st4 m4 ea ta
    generalize hf5 : putF "_above" (.ref pa) f4 = f5 at h5 l5 k5 u5 st5 m5 ea5 ta5 ⊢
    generalize upd Ha o (.ins C dx f5) = H5 at h5 k5 u5 st5 m5 ea5 ta5 ⊢
    refine te_tups (n := m) (st := st) (p := fun y x => M x y) (by omega) (SqL.of st5) rfl (fun y => rfl) (fun x y => rfl) (fun x => rfl) (fun x => rfl) (fun x y H' Qb hx hy s q => ?_) (fun pb rb Hb sb nb lb eb tb => ?_)
    · obtain ⟨r, hr1, har, her⟩ := m5.get hy
      exact ⟨_, rfl, _, rfl, _, _, _, _, rfl, rfl, SqL.of (s _ _ m5.top), har, _, rfl, _, _, _, _, rfl, rfl, SqL.of (s _ _ her), rowV_at hx, _, rfl, q H' (Same.refl _)⟩
    refine ⟨_, rfl, o, C, dx, f5, rfl, sb _ _ h5, OC.cl, OC.a3, (by show _ < 1000; omega), ?_⟩
    have ob := sb _ _ h5
    have k6 : Keep o H3 (upd Hb o (.ins C dx (putF "_below" (.ref pb) f5))) := (k5.trans (Keep.of_same sb)).trans Keep.upd
    have u6 : Keep o Hb (upd Hb o (.ins C dx (putF "_below" (.ref pb) f5))) := Keep.upd
    have h6 : upd Hb o (.ins C dx (putF "_below" (.ref pb) f5)) o = some (.ins C dx (putF "_below" (.ref pb) f5)) := upd_same
    have l6 : (putF "_below" (.ref pb) f5).length ≤ 3 := Nat.le_trans (putF_len _ _ _) (by omega)
    have st6 := keep_lst u6 ob (sb _ _ st5)
    have m6 := (m5.same sb).keep u6 ob
    have ea6 := keep_tup u6 ob (sb _ _ ea5)
    have ta6 := (ta5.same sb).keep u6 ob
    have eb6 := keep_tup u6 ob eb
    have tb6 := tb.keep u6 ob
    clear k5 h5 st5 m5 ea5 ta5 eb tb u5
    generalize hf6 : putF "_below" (.ref pb) f5 = f6 at h6 l6 k6 u6 st6 m6 ea6 ta6 eb6 tb6 ⊢
    generalize upd Hb o (.ins C dx f6) = H6 at h6 k6 u6 st6 m6 ea6 ta6 eb6 tb6 ⊢
    refine te_tups (n := m) (st := st) (p := covB m M) (by omega) (SqL.of st6) rfl (fun y => rfl) (fun x y => rfl) (fun x => rfl) (fun x => rfl) (fun x y H' Qb hx hy s q => ?_) (fun pc rc Hc sc nc lc ec tc => ?_)
    · exact ⟨_, rfl, _, rfl, _, rfl, D, m, M, rs, x, y, rfl, hx, hy, h24, m6.same s, fun H2 s2 => ⟨_, rfl, q H2 s2⟩⟩
    refine ⟨_, rfl, o, C, dx, f6, rfl, sc _ _ h6, OC.cl, OC.a4, (by show _ < 1000; omega), ?_⟩
    have oc := sc _ _ h6
    have k7 : Keep o H3 (upd Hc o (.ins C dx (putF "_covers" (.ref pc) f6))) := (k6.trans (Keep.of_same sc)).trans Keep.upd
    have u7 : Keep o Hc (upd Hc o (.ins C dx (putF "_covers" (.ref pc) f6))) := Keep.upd
    have h7 : upd Hc o (.ins C dx (putF "_covers" (.ref pc) f6)) o = some (.ins C dx (putF "_covers" (.ref pc) f6)) := upd_same
    have l7 : (putF "_covers" (.ref pc) f6).length ≤ 4 := Nat.le_trans (putF_len _ _ _) (by omega)
    have st7 := keep_lst u7 oc (sc _ _ st6)
    have ea7 := keep_tup u7 oc (sc _ _ ea6)
    have ta7 := (ta6.same sc).keep u7 oc
    have eb7 := keep_tup u7 oc (sc _ _ eb6)
    have tb7 := (tb6.same sc).keep u7 oc
    have ec7 := keep_tup u7 oc ec
    have tc7 := tc.keep u7 oc
    have lk7 : (putF "_covers" (.ref pc) f6).lookup ("_covers" : Str) = some (.ref pc) := lkY
    clear k6 h6 st6 m6 ea6 ta6 eb6 tb6 ec tc u6
    generalize hf7 : putF "_covers" (.ref pc) f6 = f7 at h7 l7 k7 u7 st7 ea7 ta7 eb7 tb7 ec7 tc7 lk7 ⊢
    generalize upd Hc o (.ins C dx f7) = H7 at h7 k7 u7 st7 ea7 ta7 eb7 tb7 ec7 tc7 ⊢
    have covAt : ∀ {x : Nat}, x < m → ∃ r, atI (rc.map V.ref) (x : Int) = some (.ref r) ∧ H7 r = some (.tup (natsV (fl m (covB m M x)))) := fun {x} hx => by
      have hl : x < rc.length := by omega
      have e : rc[x]? = some rc[x] := by simp [hl]
      exact ⟨rc[x], atI_nat (by rw [List.getElem?_map, e]; rfl), tc7 x _ e⟩
    refine te_filt (n := m) (st := st) (p := fun s => (fl m (covB m M s)).isEmpty) (by omega) (SqL.of st7) rfl (fun y => rfl) rfl (fun x H' Qb hx s q => ?_) (fun pe He se ne ee => ?_)
    · obtain ⟨r, har, her⟩ := covAt hx
      refine ⟨_, rfl, o, C, dx, f7, _, rfl, s _ _ h7, OC.cl, OC.a4, lk7, _, rfl, _, _, _, _, rfl, rfl, SqT.of (s _ _ ec7), har, !(natsV (fl m (covB m M x))).isEmpty, .inr (.inl ⟨_, SqT.of (s _ _ her), rfl⟩), ?_⟩
      have e1 : (!(!(natsV (fl m (covB m M x))).isEmpty)) = (fl m (covB m M x)).isEmpty := by
        rw [Bool.not_not]
        cases fl m (covB m M x) <;> rfl
      show Qb (!(!(natsV (fl m (covB m M x))).isEmpty)) H'
      rw [e1]
      exact q H' (Same.refl _)
    refine ⟨_, rfl, o, C, dx, f7, rfl, se _ _ h7, OC.cl, OC.a5, (by show _ < 1000; omega), ?_⟩
    have oe := se _ _ h7
    have k8 : Keep o H3 (upd He o (.ins C dx (putF "_ends" (.ref pe) f7))) := (k7.trans (Keep.of_same se)).trans Keep.upd
    have u8 : Keep o He (upd He o (.ins C dx (putF "_ends" (.ref pe) f7))) := Keep.upd
    have h8 : upd He o (.ins C dx (putF "_ends" (.ref pe) f7)) o = some (.ins C dx (putF "_ends" (.ref pe) f7)) := upd_same
    have l8 : (putF "_ends" (.ref pe) f7).length ≤ 5 := Nat.le_trans (putF_len _ _ _) (by omega)
    have st8 := keep_lst u8 oe (se _ _ st7)
    have ea8 := keep_tup u8 oe (se _ _ ea7)
    have ta8 := (ta7.same se).keep u8 oe
    have eb8 := keep_tup u8 oe (se _ _ eb7)
    have tb8 := (tb7.same se).keep u8 oe
    have ec8 := keep_tup u8 oe (se _ _ ec7)
    have tc8 := (tc7.same se).keep u8 oe
    have ee8 := keep_tup u8 oe ee
    have lk8 : (putF "_ends" (.ref pe) f7).lookup ("_covers" : Str) = some (.ref pc) := lkN (by decide +kernel) lk7
    clear k7 h7 st7 ea7 ta7 eb7 tb7 ec7 tc7 ee u7 covAt
    generalize hf8 : putF "_ends" (.ref pe) f7 = f8 at h8 l8 k8 u8 st8 ea8 ta8 eb8 tb8 ec8 tc8 ee8 lk8 ⊢
    generalize upd He o (.ins C dx f8) = H8 at h8 k8 u8 st8 ea8 ta8 eb8 tb8 ec8 tc8 ee8 ⊢
    have covAt : ∀ {x : Nat}, x < m → ∃ r, atI (rc.map V.ref) (x : Int) = some (.ref r) ∧ H8 r = some (.tup (natsV (fl m (covB m M x)))) := fun {x} hx => by
      have hl : x < rc.length := by omega
      have e : rc[x]? = some rc[x] := by simp [hl]
      exact ⟨rc[x], atI_nat (by rw [List.getElem?_map, e]; rfl), tc8 x _ e⟩
    refine ⟨_, rfl, st, rfl, ⟨_, SqL.of st8⟩, fun Dd hDd => lc_edges (n := m) (c := fun x => fl m (covB m M x)) h24 (fun x => fl_le) (SqL.of st8) hDd (fun y => rfl) (fun x y => rfl) (fun x H' R hx s q => ?_) (fun x y H' Q' hx s q => ?_) (fun rd Hd sd ed pd => ?_)⟩
    · obtain ⟨r, har, her⟩ := covAt hx
      exact ⟨_, rfl, o, C, dx, f8, _, rfl, s _ _ h8, OC.cl, OC.a4, lk8, _, rfl, _, _, _, _, rfl, rfl, SqT.of (s _ _ ec8), har, r, rfl, ⟨_, SqT.of (s _ _ her)⟩, q r (SqT.of her)⟩
    · exact ⟨_, rfl, _, rfl, (by show 2 ≤ sizeLine; decide), fun r hr => q r hr⟩
    refine ⟨Dd, _, rfl, .inl ⟨SqL.of ed, fun pz hz => ?_⟩⟩
    have sz := sd.trans (same_new (o := .tup (rd.map V.ref)) hz)
    have od := sz _ _ h8
    refine ⟨_, rfl, o, C, dx, f8, rfl, od, OC.cl, OC.a6, (by show _ < 1000; omega), ?_⟩
    have u9 : Keep o (upd Hd pz (.tup (rd.map V.ref))) (upd (upd Hd pz (.tup (rd.map V.ref))) o (.ins C dx (putF "edges" (.ref pz) f8))) := Keep.upd
    have k9 : Keep o H (upd (upd Hd pz (.tup (rd.map V.ref))) o (.ins C dx (putF "edges" (.ref pz) f8))) := (((Keep.of_same s3).trans k8).trans (Keep.of_same sz)).trans Keep.upd
    refine kok hC _ k9 ⟨pa, pb, pc, pe, pz, ra, rb, rc, rd, ?_, ⟨keep_tup u9 od (sz _ _ ea8), la, (ta8.same sz).keep u9 od⟩, ⟨keep_tup u9 od (sz _ _ eb8), lb, (tb8.same sz).keep u9 od⟩, ⟨keep_tup u9 od (sz _ _ ec8), lc, (tc8.same sz).keep u9 od⟩, keep_tup u9 od (sz _ _ ee8), keep_tup u9 od upd_same, ?_⟩
    · rw [upd_same, ← hf8, ← hf7, ← hf6, ← hf5, ← hf4]
      rfl
    · exact (pd.same (same_new hz)).keep u9 od
end
end Z

set_option Elab.async false
set_option linter.all false
set_option maxRecDepth 100000
namespace Z
open PySem L2
local macro_rules | `(tactic| walk_at "side") => `(tactic| first | omega | (unfold CMul; omega) | (unfold CDiv; omega) | (unfold CDivN; omega) | (unfold CPow; omega) | decide)
local macro_rules | `(tactic| walk_at "lst") => `(tactic| first | exact SqL.of (by assumption) | exact SqL.of upd_same | assumption | exact upd_same)
local macro_rules | `(tactic| walk_at "r1") => `(tactic| first | refine ⟨_, rfl, ?_⟩ | refine ⟨_, _, rfl, rfl, ?_⟩ | refine Or.inl ⟨_, rfl, ?_⟩ | refine And.intro rfl ?_ | refine ⟨_, _, _, _, rfl, rfl, by walk_at "lst", rfl, ?_⟩ | refine ⟨_, _, rfl, Or.inl (by walk_at "lst"), ?_⟩ | refine And.intro (by walk_at "side") ?_)
local macro_rules | `(tactic| walk_at "r") => `(tactic| repeat walk_at "r1")
theorem Keep.mut {h : Addr} {H H' : Hp} {p : Addr} {o : HO} (k : Keep h H H') (n : H p = none) : Keep h H (L2.upd H' p o) := fun b u e nb => by
  rw [upd_ne (ne_of_none e n)]
  exact k b u e nb
theorem perm_erase {α : Type} : ∀ {l : List α} {d : Nat} (h : d < l.length), (l[d] :: l.eraseIdx d).Perm l
  | x :: l, 0, _ => .refl _
  | x :: l, d + 1, h => by
    have ih := perm_erase (l := l) (d := d) (by simpa using h)
    exact (List.Perm.swap _ _ _).trans (ih.cons x)
abbrev s_seqd : Stmt := top 26
abbrev s_shuf : Stmt := top 21
abbrev s_hand : Stmt := top 25
def spSeqd (K : PySem.W.Frag) : Sp := fun vs H Q _ => ∃ (h ha r : Addr) (xs : List V), vs = [.ref h, .ref r] ∧ Hnd H h ha ∧ (SqL K H r xs ∨ SqT K H r xs) ∧ (∀ H', Keep h H H' → SqL K H' r xs ∨ SqT K H' r xs) ∧
  ∀ p H', Keep h H H' → Hnd H' h ha → (H' p = some (.lst xs) ∨ H' p = some (.tup xs) ∨ SqT K H' p xs) → Q (.ref p) H'
def spShuf (K : PySem.W.Frag) : Sp := fun vs H Q _ => ∃ (h ha r : Addr) (xs : List V), vs = [.ref h, .ref r] ∧ Hnd H h ha ∧ (SqL K H r xs ∨ SqT K H r xs) ∧ (∀ H', Keep h H H' → SqL K H' r xs ∨ SqT K H' r xs) ∧ xs.length ≤ 1000 ∧
  ∀ p ws H', ws.Perm xs → Keep h H H' → Hnd H' h ha → H p = none → H' p = some (.lst ws) → Q (.ref p) H'
section
variable {P : Program} {w : World} {K : PySem.W.Frag} {mg : Str → Option Value} {base : Heap}
theorem sc_shuf : FnScope ["hand", "row", "left", "told", "turn"] ["hand", "row"] (defScope s_shuf) := ⟨rfl, rfl, rfl, by decide +kernel, rfl, by decide +kernel, by decide +kernel⟩
theorem ok_shuf {f : Addr} {fd : FuncData} (F : Fun K "_law_shuffled" "_law_shuffled" s_shuf f fd) (T : Bl mg) (c_law_draw : Cal P w K mg base CX0 "_law_draw" 2 spDraw) : FnOk P w K mg base CX0 3 f fd ["hand", "row"] (spShuf K) := by
  refine F.ok sc_shuf (fun vs H Q E h => ?_) (fun cdv A outer s H vs Q E hr h => ?_)
  · obtain ⟨h, ha, r, xs, rfl, _⟩ := h
    rfl
  · obtain ⟨h, ha, r, xs, rfl, hn, hq, hqk, hl, k⟩ := h
    refine ⟨_,
      (pss_cons (ps_set (i := 2) sc_shuf.nd rfl (Or.inl rfl) (pe_callTy (klist_of K) (by rfl) T.n_list (by decide +kernel) (pa_cons (pv 1) pa_nil)))
      (pss_cons (ps_set (i := 3) sc_shuf.nd rfl (Or.inl rfl) (pe_lst pa_nil))
      (pss_cons (ps_for PassesOwn.never rfl (pi_range1 (by rfl) T.n_range (pa_cons (pe_callB (klen K) (by rfl) T.n_len PySem.boot_len (pa_cons (pv 1) pa_nil)) pa_nil)) (pg_name (i := 4) sc_shuf.nd rfl (Or.inl rfl))
        (pss_one (ps_expr (pe_bm PySem.F.plainAttrs_list PySem.F.slot_list_append PySem.F.type_list_append mt_append (pv 3) (pa_cons (pe_bm PySem.F.plainAttrs_list PySem.F.slot_list_pop PySem.F.type_list_pop mt_popAt (pv 2) (pa_cons (pe_cal c_law_draw (hr.mono (by decide)) (by rfl) (pa_cons (pv 0) (pa_cons (pe_callB (klen K) (by rfl) T.n_len PySem.boot_len (pa_cons (pv 2) pa_nil)) pa_nil))) pa_nil)) pa_nil)))))
      (pss_one (ps_ret (pv 3))))))
      , ?_⟩
    walk_at "r"
    refine ⟨_, _, rfl, hq, fun l hl0 => ?_⟩
    refine ⟨by show 0 ≤ sizeLine; decide, fun t ht0 => ?_⟩
    have nlh : l ≠ h := hn.ne hl0
    have hlt0 : H t = none := by
      cases e : H t with
      | none => rfl
      | some o =>
        rw [upd_ne (ne_of_none e hl0), e] at ht0
        cases ht0
    have nth : t ≠ h := hn.ne hlt0
    have ntl : t ≠ l := fun z => by
      rw [z, upd_same] at ht0
      cases ht0
    have k2 : Keep h H (upd (upd H l (.lst xs)) t (.lst [])) := ((Keep.refl h H).mut hl0).mut hlt0
    have n2 : Hnd (upd (upd H l (.lst xs)) t (.lst [])) h ha := (hn.new hl0).new ht0
    walk_at "r"
    refine ⟨_, _, rfl, hqk _ k2, ?_⟩
    refine ⟨_, rfl, by omega, by omega, ?_⟩
    refine for_range (lo := 0) (n := xs.length) (fun i σ H' => ∃ (v : Option V) (ls ts : List V), σ = [some (.ref h), some (.ref r), some (.ref l), some (.ref t), v] ∧ Keep h H H' ∧ Hnd H' h ha ∧ H' l = some (.lst ls) ∧ H' t = some (.lst ts) ∧ (ts ++ ls).Perm xs ∧ ts.length = i)
      ⟨none, xs, [], rfl, k2, n2, by rw [upd_ne ntl.symm]; exact upd_same, upd_same, by simp, rfl⟩ ?_ ?_
    · rintro i σ H' hi ⟨v, ls, ts, rfl, k3, n3, e1, e2, pm, el⟩
      have hlen : ts.length + ls.length = xs.length := by
        have := pm.length_eq
        simpa using this
      refine ⟨_, rfl, .inl ⟨rfl, _, SqL.of e2⟩, ?_⟩
      refine ⟨_, rfl, .inl ⟨rfl, _, SqL.of e1⟩, ?_⟩
      refine ⟨_, rfl, _, rfl, _, _, rfl, .inl (SqL.of e1), ?_⟩
      refine ⟨h, ha, (ls.length : Int), rfl, n3, by omega, by omega, fun d H2 d0 d1 k4 n4 _ => ?_⟩
      have e1' := k4 _ _ e1 nlh
      have e2' := k4 _ _ e2 nth
      have hd : d.toNat < ls.length := by omega
      have hix : seqIndex? d ls.length = some d.toNat := (ixN_seq (by
        have e : ((d.toNat : Nat) : Int) = d := by omega
        rw [← e]
        exact ixN_nat hd)).1
      refine ⟨l, ls, d, d.toNat, ls[d.toNat], rfl, rfl, e1', by omega, by omega, hix, by simp [hd], ?_⟩
      refine ⟨t, ts, ls[d.toNat], rfl, rfl, by rw [upd_ne ntl]; exact e2', small1000 (by omega), ?_⟩
      refine ⟨_, ls.eraseIdx d.toNat, ts ++ [ls[d.toNat]], rfl, ?_, ?_, ?_, upd_same, ?_, ?_⟩
      · exact ((k3.trans k4).mut hl0).mut hlt0
      · exact (n4.off nlh (hn.nea hl0)).off nth (hn.nea hlt0)
      · rw [upd_ne ntl.symm]
        exact upd_same
      · refine List.Perm.trans ?_ pm
        rw [List.append_assoc]
        refine List.Perm.append_left ts ?_
        exact perm_erase hd
      · rw [List.length_append, el]
        rfl
    · rintro σ H' ⟨v, ls, ts, rfl, k3, n3, e1, e2, pm, el⟩
      have hlen : ts.length + ls.length = xs.length := by
        have := pm.length_eq
        simpa using this
      have ez : ls = [] := List.length_eq_zero_iff.mp (by omega)
      subst ez
      rw [List.append_nil] at pm
      walk_at "r"
      exact k t ts H' pm k3 n3 hlt0 e2
theorem sc_seqd : FnScope ["hand", "row"] ["hand", "row"] (defScope s_seqd) := ⟨rfl, rfl, rfl, by decide +kernel, rfl, by decide +kernel, by decide +kernel⟩
theorem ok_seqd {f : Addr} {fd : FuncData} (F : Fun K "_law_seq" "_law_seq" s_seqd f fd) (T : Bl mg) (c_law_draw : Cal P w K mg base CX0 "_law_draw" 2 spDraw) : FnOk P w K mg base CX0 3 f fd ["hand", "row"] (spSeqd K) := by
  refine F.ok sc_seqd (fun vs H Q E h => ?_) (fun cdv A outer s H vs Q E hr h => ?_)
  · obtain ⟨h, ha, r, xs, rfl, _⟩ := h
    rfl
  · obtain ⟨h, ha, r, xs, rfl, hn, hq, hqk, k⟩ := h
    refine ⟨_,
      (pss_one (ps_ret (pe_ifExp (pt_cmpR op_eq (pe_cal c_law_draw (hr.mono (by decide)) (by rfl) (pa_cons (pv 0) (pa_cons pe_int pa_nil))) pe_int (nomark _)) (pe_callTy (klist_of K) (by rfl) T.n_list (by decide +kernel) (pa_cons (pv 1) pa_nil)) (pe_callTy (ktuple_of K) (by rfl) T.n_tuple (by decide +kernel) (pa_cons (pv 1) pa_nil)))))
      , ?_⟩
    walk_at "r"
    refine ⟨h, ha, 2, rfl, hn, by omega, by omega, fun d H2 d0 d1 k2 n2 _ => ?_⟩
    walk_at "r"
    refine iteB (fun c => ?_) (fun c => ?_)
    · walk_at "r"
      refine ⟨_, _, rfl, hqk _ k2, fun p hp => ?_⟩
      exact k p _ (k2.trans (Keep.new hp)) (n2.new hp) (.inl upd_same)
    · walk_at "r"
      rcases hqk _ k2 with hl | ht
      · exact ⟨_, _, rfl, .inl ⟨hl, fun p hp => k p _ (k2.trans (Keep.new hp)) (n2.new hp) (.inr (.inl upd_same))⟩⟩
      · exact ⟨_, _, rfl, .inr ⟨ht, k r _ k2 n2 (.inr (.inr ht))⟩⟩
/-! ### the hand -/
def spHand (K : PySem.W.Frag) : Sp := fun vs H Q _ => ∃ (a : Addr) (ns : List Int), vs = [.ref a] ∧ SqL K H a (ns.map V.int) ∧ ns.length ≤ 63 ∧ ∀ h ha H', Same H H' → Hnd H' h ha → H h = none → H ha = none → Q (.ref h) H'
theorem sc_hand : FnScope ["script", "total", "k", "cell"] ["script"] (defScope s_hand) := ⟨rfl, rfl, rfl, by decide +kernel, rfl, by decide +kernel, by decide +kernel⟩
theorem ok_hand {f : Addr} {fd : FuncData} (F : Fun K "_law_hand" "_law_hand" s_hand f fd) (T : Bl mg) : FnOk P w K mg base CX0 1 f fd ["script"] (spHand K) := by
  refine F.ok sc_hand (fun vs H Q E h => ?_) (fun cdv A outer s H vs Q E hr h => ?_)
  · obtain ⟨a, ns, rfl, _⟩ := h
    rfl
  · obtain ⟨a, ns, rfl, hs, hl, k⟩ := h
    refine ⟨_,
      (pss_cons (ps_set (i := 1) sc_hand.nd rfl (Or.inl rfl) pe_int)
      (pss_cons (ps_for PassesOwn.never rfl (pi_enum (by rfl) T.n_enumerate (pa_cons (pv 0) pa_nil)) (pg_tup (by rfl) (pgs_cons (pg_name (i := 2) sc_hand.nd rfl (Or.inl rfl)) (pgs_cons (pg_name (i := 3) sc_hand.nd rfl (Or.inl rfl)) pgs_nil)))
        (pss_one (ps_set (i := 1) sc_hand.nd rfl (Or.inl rfl) (pe_op op_mod (pe_callTy call_int1 (by rfl) T.n_int (by decide +kernel) (pa_cons (pe_op op_add (pe_op op_mul (pv 1) pe_int) (pe_op op_mul (pe_callTy call_int1 (by rfl) T.n_int (by decide +kernel) (pa_cons (pv 3) pa_nil)) (pe_op op_add (pv 2) pe_int))) pa_nil)) pe_int))))
      (pss_one (ps_ret (pe_lst (pa_cons (pe_lc (own := [("cell", 3)]) (by rfl) sc_hand.nd (kpi_list K (pv 0)) (blkOk_by (own := [("cell", 3)]) (by show blkC ["script", "total", "k", "cell"] (defScope s_hand) _ _ = true; decide +kernel)) (fun _ _ _ _ _ => (pg_name (i := 3) sc_hand.nd rfl (Or.inl rfl))) (fun _ _ _ _ _ => pts_nil) (fun _ _ _ _ _ => (pe_callB call_abs (by rfl) T.n_abs (by decide +kernel) (pa_cons (pe_callTy call_int1 (by rfl) T.n_int (by decide +kernel) (pa_cons (pv 3) pa_nil)) pa_nil)))) (pa_cons pe_int (pa_cons pe_int (pa_cons (pv 1) pa_nil)))))))))
      , ?_⟩
    have getN : ∀ {i : Nat} {x : V}, (ns.map V.int)[i]? = some x → ∃ z, ns[i]? = some z ∧ x = .int z := fun {i x} e => by
      rw [List.getElem?_map] at e
      cases q : ns[i]? with
      | none =>
        rw [q] at e
        cases e
      | some z =>
        rw [q] at e
        exact ⟨z, rfl, (Option.some.inj e).symm⟩
    walk_at "r"
    refine ⟨a, _, rfl, hs, for_it (walk_enum (K := K) (a := a) (xs := ns.map V.int)) (fun i σ H' => ∃ (t : Int) (v w : Option V), σ = [some (.ref a), some (.int t), v, w] ∧ Same H H' ∧ 0 ≤ t ∧ t < 2147483549)
      ⟨0, none, none, rfl, Same.refl _, by omega, by omega⟩ (fun i σ H' _ q => by
        obtain ⟨t, v, w, _, s1, _⟩ := q
        exact s1.seq hs) ?_ ?_⟩
    · rintro i v σ H1 H2 hi ⟨t, v1, w1, rfl, s1, t0, t1⟩ y
      obtain ⟨T', x, y, rfl, hT, rfl, ex, ey⟩ := y
      cases ex
      obtain ⟨z, hz, rfl⟩ := getN ey
      have hi63 : i < 63 := by
        have := (List.getElem?_eq_some_iff.mp hz).1
        omega
      refine ⟨T', _, rfl, SqT.of upd_same, rfl, _, _, rfl, _, _, rfl, rfl, ?_⟩
      walk_at "r"
      exact ⟨_, _, _, rfl, s1.trans (same_new hT), Int.emod_nonneg _ (by omega), Int.emod_lt_of_pos _ (by omega)⟩
    · rintro σ H' ⟨t, v, w, rfl, s1, t0, t1⟩
      walk_at "r"
      refine ⟨⟨_, s1.seq hs⟩, fun D hD => lc_list (K := K) (a := a) (xs := ns.map V.int) (fun j H2 => ∃ cs : List Int, Same H' H2 ∧ H2 D = some (.lst (cs.map V.int)) ∧ cs.length = j ∧ ∀ c ∈ cs, 0 ≤ c) ⟨[], same_new hD, upd_same, rfl, fun _ h => nomatch h⟩ (fun j H2 _ q => by
        obtain ⟨cs, s2, _⟩ := q
        exact s2.seq (s1.seq hs)) ?_ ?_⟩
      · rintro j x H2 hx ⟨cs, s2, e2, el, hc⟩
        obtain ⟨z, hz, rfl⟩ := getN hx
        have hj : j < 63 := by
          have := (List.getElem?_eq_some_iff.mp hz).1
          omega
        refine ⟨rfl, ?_⟩
        refine ⟨_, rfl, .inl ⟨_, rfl, ?_⟩⟩
        refine ⟨_, rfl, _, e2, small1000 (by rw [List.length_map]; omega), cs ++ [if z < 0 then -z else z], same_mut s2 hD, ?_, ?_, ?_⟩
        · rw [upd_same, List.map_append]
          rfl
        · rw [List.length_append, el]
          rfl
        · intro c hc'
          rcases List.mem_append.mp hc' with h | h
          · exact hc c h
          · have e : c = if z < 0 then -z else z := by simpa using h
            rw [e]
            split <;> omega
      · rintro H2 ⟨cs, s2, e2, el, hc⟩
        have hD' : H D = none := s1.free hD
        walk_at "r"
        refine ⟨by show 4 ≤ sizeLine; decide, fun p hp => ?_⟩
        have hp' : H p = none := (s1.trans s2).free hp
        have ne : D ≠ p := ne_of_none e2 hp
        refine k p D _ ((s1.trans s2).trans (same_new hp)) ⟨cs, 0, 0, t, upd_same, by rw [upd_ne ne]; exact e2, ne, by rw [List.length_map] at el; omega, hc, by omega, by omega, t0, t1⟩ hp' hD'
end
end Z

set_option Elab.async false
set_option linter.all false
set_option maxRecDepth 100000
namespace Z
open PySem L2
local macro_rules | `(tactic| walk_at "side") => `(tactic| first | omega | (unfold CMul; omega) | (unfold CDiv; omega) | (unfold CDivN; omega) | (unfold CPow; omega) | decide)
local macro_rules | `(tactic| walk_at "lst") => `(tactic| first | exact SqL.of (by assumption) | exact SqL.of upd_same | assumption | exact upd_same)
local macro_rules | `(tactic| walk_at "r1") => `(tactic| first | refine ⟨_, rfl, ?_⟩ | refine ⟨_, _, rfl, rfl, ?_⟩ | refine Or.inl ⟨_, rfl, ?_⟩ | refine And.intro rfl ?_ | refine ⟨_, _, _, _, rfl, rfl, by walk_at "lst", rfl, ?_⟩ | refine ⟨_, _, rfl, Or.inl (by walk_at "lst"), ?_⟩ | refine And.intro (by walk_at "side") ?_)
local macro_rules | `(tactic| walk_at "r") => `(tactic| repeat walk_at "r1")
theorem kinD {X : Cx} (K : PySem.W.Frag) (hu : X.A.units + 65 < cLine) (h : X.K = K := by rfl) : OpR X (compareOp .In) (rInD K) := by
  rw [← h]
  exact op_inD hu
theorem hu65 {A : Around} {k : Nat} (hr : Room k A) : A.units + 65 < cLine := by
  have := hr.un
  omega
def cpD (z : Nat × Nat) : PyData := .tuple [.int z.1, .int z.2]
theorem cpD_shaped (z : Nat × Nat) : SeqAt.shaped (cpD z) = true := by
  simp [cpD, SeqAt.shaped, PyData.canLay0, PyData.canLayAll0, PyData.depth, PyData.depthAll]
theorem cpDs_lay : ∀ zs : List (Nat × Nat), PyData.canLayAll0 (zs.map cpD) = true
  | [] => by simp [PyData.canLayAll0]
  | z :: zs => by simp [PyData.canLayAll0, cpD, PyData.canLay0, cpDs_lay zs]
theorem cpDs_depth : ∀ zs : List (Nat × Nat), PyData.depthAll (zs.map cpD) ≤ 2
  | [] => by simp [PyData.depthAll]
  | z :: zs => by
    have h1 := cpDs_depth zs
    have h2 : (cpD z).depth ≤ 2 := by simp [cpD, PyData.depth, PyData.depthAll]
    simp only [List.map_cons, PyData.depthAll]
    omega
theorem cpDs_shaped (zs : List (Nat × Nat)) : SeqAt.shaped (.list (zs.map cpD)) = true := by
  have h1 := cpDs_depth zs
  have h2 : PyData.depth (.list (zs.map cpD)) ≤ 64 := by
    simp only [PyData.depth]
    omega
  show (PyData.canLay0 (.list (zs.map cpD)) && decide (PyData.depth (.list (zs.map cpD)) ≤ 64)) = true
  rw [Bool.and_eq_true]
  exact ⟨by simp only [PyData.canLay0]; exact cpDs_lay zs, decide_eq_true h2⟩
theorem NewM.one {H : Hp} {D : Addr} (hD : H D = none) : NewM H (upd H D (.lst [])) D 0 (fun _ _ => false) [] :=
  ⟨same_new hD, ⟨upd_same, rfl, (fun _ _ h => by cases h), .nil, fun h => nomatch h⟩, hD, fun _ h => nomatch h⟩
/-- [[..] for x in range(n)] -/
theorem lc_matr {te : TE} {n i : Nat} {vs : List Nat} {σ : L2.St} {H1 : Hp} {D : Addr} {Qd : Hp → Prop} (M : Nat → Nat → Bool) (hn : n ≤ 600) (hD : H1 D = none)
    (hw : ∀ y, wipe ((wipe σ vs).set i (some y)) vs = wipe σ vs)
    (he : ∀ x H' Q, x < n → Same H1 H' → (∀ r H2, Same H' H2 → H' r = none → H2 r = some (.lst (rowV n (M x))) → Q (.ref r) H2) → te ((wipe σ vs).set i (some (.int (0 + (x : Nat))))) H' Q)
    (hd : ∀ rs H', NewM H1 H' D n M rs → Qd H') :
    ∃ W : Nat → Nat → Hp → Prop, (∃ m, W 0 m (upd H1 D (.lst []))) ∧ ∀ j m H, W j m H →
      ((Itr 0 n).stop j H ∧ Qd H) ∨ ((Itr 0 n).go j H ∧ ∃ Nx : Hp → Prop, (∀ H', Nx H' → ∃ m', m' < m ∧ W (j + 1) m' H') ∧ ∀ x H', (Itr 0 n).yld j H x H' → gName i x (wipe σ vs) H' fun σ2 H2 => wipe σ2 vs = wipe σ vs ∧ tYes σ2 H2 fun b H3 =>
        if b = true then te σ2 H3 fun y H4 => ∃ acc, H4 D = some (.lst acc) ∧ acc.length < sizeLine ∧ Nx (upd H4 D (.lst (acc ++ [y]))) else Nx H3) := by
  refine lc_range (lo := 0) (n := n) (fun j H' => ∃ rs : List Addr, Same H1 H' ∧ H' D = some (.lst (rs.map V.ref)) ∧ rs.length = j ∧ (∀ x r, rs[x]? = some r → H' r = some (.lst (rowV n (M x)))) ∧ rs.Nodup ∧ D ∉ rs ∧ ∀ r ∈ rs, H1 r = none)
    ⟨[], same_new hD, upd_same, rfl, (fun _ _ h => by cases h), .nil, (fun h => nomatch h), (fun _ h => nomatch h)⟩ ?_ ?_
  · rintro j H' hj ⟨rs, s1, eD, el, er, nd, nD, fr⟩
    refine ⟨hw _, ?_⟩
    refine he j H' _ hj s1 fun q H2 s2 hq e2 => ⟨rs.map V.ref, s2 _ _ eD, small1000 (by rw [List.length_map]; omega), rs ++ [q], same_mut (s1.trans s2) hD, ?_, by simp [el], ?_, ?_, ?_, ?_⟩
    · rw [upd_same, List.map_append]
      rfl
    · have qD : q ≠ D := ne_of_none' eD hq
      intro x r hx
      by_cases hxl : x < rs.length
      · rw [List.getElem?_append_left hxl] at hx
        have rD : r ≠ D := fun z => nD (z ▸ List.mem_of_getElem? hx)
        rw [upd_ne rD]
        exact s2 _ _ (er x r hx)
      · rw [List.getElem?_append_right (by omega)] at hx
        cases hz : x - rs.length with
        | zero =>
          rw [hz] at hx
          cases hx
          rw [upd_ne qD]
          have ex : x = j := by omega
          rw [ex]
          exact e2
        | succ z =>
          rw [hz] at hx
          simp at hx
    · refine List.nodup_append.mpr ⟨nd, by simp, fun a ha b hb => ?_⟩
      have e : b = q := by simpa using hb
      subst e
      obtain ⟨x, hx⟩ := List.getElem?_of_mem ha
      exact ne_of_none (er x a hx) hq
    · intro hm
      rcases List.mem_append.mp hm with hm | hm
      · exact nD hm
      · have e : D = q := by simpa using hm
        exact ne_of_none' eD hq e.symm
    · intro r hr
      rcases List.mem_append.mp hr with hr | hr
      · exact fr r hr
      · have e : r = q := by simpa using hr
        subst e
        exact s1.free hq
  · rintro H' ⟨rs, s1, eD, el, er, nd, nD, fr⟩
    exact hd rs H' ⟨s1, ⟨eD, el, er, nd, nD⟩, hD, fr⟩
/-- [test for y in range(n)] -/
theorem lc_rowr {te : TE} {n i : Nat} {vs : List Nat} {σ : L2.St} {H1 : Hp} {D : Addr} {Qd : Hp → Prop} (f : Nat → Bool) (hn : n ≤ 600) (hD : H1 D = none)
    (hw : ∀ y, wipe ((wipe σ vs).set i (some y)) vs = wipe σ vs)
    (he : ∀ x H' Q, x < n → Same H1 H' → (∀ H2, Same H' H2 → Q (.bl (f x)) H2) → te ((wipe σ vs).set i (some (.int (0 + (x : Nat))))) H' Q)
    (hd : ∀ H', Same H1 H' → H' D = some (.lst (rowV n f)) → Qd H') :
    ∃ W : Nat → Nat → Hp → Prop, (∃ m, W 0 m (upd H1 D (.lst []))) ∧ ∀ j m H, W j m H →
      ((Itr 0 n).stop j H ∧ Qd H) ∨ ((Itr 0 n).go j H ∧ ∃ Nx : Hp → Prop, (∀ H', Nx H' → ∃ m', m' < m ∧ W (j + 1) m' H') ∧ ∀ x H', (Itr 0 n).yld j H x H' → gName i x (wipe σ vs) H' fun σ2 H2 => wipe σ2 vs = wipe σ vs ∧ tYes σ2 H2 fun b H3 =>
        if b = true then te σ2 H3 fun y H4 => ∃ acc, H4 D = some (.lst acc) ∧ acc.length < sizeLine ∧ Nx (upd H4 D (.lst (acc ++ [y]))) else Nx H3) := by
  refine lc_range (lo := 0) (n := n) (fun j H' => Same H1 H' ∧ H' D = some (.lst (rowV j f))) ⟨same_new hD, upd_same⟩ ?_ ?_
  · rintro j H' hj ⟨s1, eD⟩
    refine ⟨hw _, ?_⟩
    refine he j H' _ hj s1 fun H2 s2 => ⟨_, s2 _ _ eD, small1000 (by rw [rowV_len]; omega), same_mut (s1.trans s2) hD, ?_⟩
    rw [upd_same]
    exact congrArg (fun l => some (HO.lst l)) rowV_snoc
  · rintro H' ⟨s1, eD⟩
    exact hd H' s1 eD
abbrev s_lcl : Stmt := top 22
def spLC (K : PySem.W.Frag) : Sp := fun vs H Q _ => ∃ (n : Nat) (a : Addr) (prs : List (Nat × Nat)), vs = [.int (n : Int), .ref a] ∧ n ≤ 24 ∧ Dp K H (.ref a) (.list (prs.map cpD)) ∧ ∀ p H', Same H H' → Q (.ref p) H'
section
variable {P : Program} {w : World} {K : PySem.W.Frag} {mg : Str → Option Value} {base : Heap}
theorem sc_lcl : FnScope ["n", "pairs", "below", "mid", "x", "y"] ["n", "pairs"] (defScope s_lcl) := ⟨rfl, rfl, rfl, by decide +kernel, rfl, by decide +kernel, by decide +kernel⟩
theorem ok_lcl {f : Addr} {fd : FuncData} (F : Fun K "_law_closed" "_law_closed" s_lcl f fd) (T : Bl mg) : FnOk P w K mg base CX0 1 f fd ["n", "pairs"] (spLC K) := by
  refine F.ok sc_lcl (fun vs H Q E h => ?_) (fun cdv A outer s H vs Q E hr h => ?_)
  · obtain ⟨n, a, prs, rfl, _⟩ := h
    rfl
  · obtain ⟨n, a, prs, rfl, h24, hp, k⟩ := h
    refine ⟨_,
      (pss_cons (ps_setLc (i := 2) (own := [("x", 4)]) (by rfl) sc_lcl.nd rfl rfl (sw_true rfl rfl rfl (by decide +kernel)) (pi_range1 (by rfl) T.n_range (pa_cons (pv 0) pa_nil)) (blkOk_by (own := [("x", 4)]) (by show blkC ["n", "pairs", "below", "mid", "x", "y"] (defScope s_lcl) _ _ = true; decide +kernel)) (fun _ _ _ _ _ => (pg_name (i := 4) sc_lcl.nd rfl (Or.inr rfl))) (fun _ _ _ _ _ => pts_nil) (fun _ _ _ _ _ => (pe_lc (own := [("y", 5)]) (by rfl) sc_lcl.nd (pi_range1 (by rfl) T.n_range (pa_cons (pv 0) pa_nil)) (blkOk_by (own := [("y", 5)]) (by show blkC ["n", "pairs", "below", "mid", "x", "y"] (relS _ ((defScope s_lcl))) _ _ = true; decide +kernel)) (fun _ _ _ _ _ => (pg_name (i := 5) sc_lcl.nd rfl (Or.inl rfl))) (fun _ _ _ _ _ => pts_nil) (fun _ _ _ _ _ => (pe_or (pe_cmpR op_eq (pv 4) (pv 5) (nomark _)) (pe_or (pe_cmpR op_eq (pv 4) pe_int (nomark _)) (pe_one (pe_cmpR (kinD K (hu65 hr)) (pe_tup (pa_cons (pv 4) (pa_cons (pv 5) pa_nil))) (pv 1) (by rfl)))))))))
      (pss_cons (ps_for PassesOwn.never rfl (pi_range1 (by rfl) T.n_range (pa_cons (pv 0) pa_nil)) (pg_name (i := 3) sc_lcl.nd rfl (Or.inl rfl))
        (pss_one (ps_for PassesOwn.never rfl (pi_range1 (by rfl) T.n_range (pa_cons (pv 0) pa_nil)) (pg_name (i := 4) sc_lcl.nd rfl (Or.inl rfl))
          (pss_one (ps_for PassesOwn.never rfl (pi_range1 (by rfl) T.n_range (pa_cons (pv 0) pa_nil)) (pg_name (i := 5) sc_lcl.nd rfl (Or.inl rfl))
            (pss_one (ps_if (PW.pt (pw_and (pt_val (pe_ix (kix_list K) (pe_ix (kix_list K) (pv 2) (pv 4) (fun _ _ => rfl)) (pv 3) (fun _ _ => rfl))) (pw_and1 (pt_val (pe_ix (kix_list K) (pe_ix (kix_list K) (pv 2) (pv 3) (fun _ _ => rfl)) (pv 5) (fun _ _ => rfl))))))
              (pss_one (ps_asg pe_bl (pg_sub (pe_ix (kix_list K) (pv 2) (pv 4) (fun _ _ => rfl)) (pv 5) set_list)))
              pss_nil)))))))
      (pss_one (ps_ret (pv 2)))))
      , ?_⟩
    walk_at "r"
    intro D hD
    refine lc_matr (n := n) (fun x y => decide (V.int ((0 : Int) + (x : Nat)) = V.int (0 + (y : Nat))) || (decide (V.int ((0 : Int) + (x : Nat)) = V.int 0) || (prs.map cpD).any fun z => PyData.eqv z (.tuple [.int (0 + (x : Nat)), .int (0 + (y : Nat))]))) (by omega) hD (fun _ => rfl) (fun x H1 Q1 hx s1 k1 => ?_) (fun rs H1 nm => ?_)
    · walk_at "r"
      intro D2 hD2
      refine lc_rowr (n := n) _ (by omega) hD2 (fun _ => rfl) (fun y H2 Q2 hy s2 k2 => ?_) (fun H2 s2 e2 => k1 D2 H2 s2 hD2 e2)
      walk_at "r"
      refine iteB (fun c1 => ?_) (fun c1 => ?_)
      · refine (congrArg (fun b => Q2 (V.bl b) H2) ?_).mpr (k2 H2 (Same.refl _))
        rw [c1]
        rfl
      · walk_at "r"
        refine iteB (fun c2 => ?_) (fun c2 => ?_)
        · refine (congrArg (fun b => Q2 (V.bl b) H2) ?_).mpr (k2 H2 (Same.refl _))
          rw [c1, c2]
          rfl
        · walk_at "r"
          refine ⟨(by show 2 ≤ sizeLine; decide), fun p hp' => ?_⟩
          refine ⟨_, rfl, _, _, .tup (SqT.of upd_same) (.cons (.int _) (.cons (.int _) .nil)), Dp.same ((s1.trans s2).trans (same_new hp')) _ _ hp, ?_, cpDs_shaped prs, ?_⟩
          · simp [SeqAt.shaped, PyData.canLay0, PyData.canLayAll0, PyData.depth, PyData.depthAll]
          · refine (congrArg (fun b => Q2 (V.bl b) _) ?_).mpr (k2 _ (same_new hp'))
            rw [c1, c2]
            rfl
    · walk_at "r"
      generalize (fun x y : Nat => decide (V.int ((0 : Int) + (x : Nat)) = V.int (0 + (y : Nat))) || (decide (V.int ((0 : Int) + (x : Nat)) = V.int 0) || (prs.map cpD).any fun z => PyData.eqv z (.tuple [.int (0 + (x : Nat)), .int (0 + (y : Nat))]))) = M0 at nm
      have c0 : ∀ z : Nat, (0 : Int) + (z : Nat) = ((z : Nat) : Int) := fun z => by omega
      refine for_range (lo := 0) (n := n) (fun i σ H2 => ∃ (v3 v4 v5 : Option V) (M : Nat → Nat → Bool) (rs : List Addr), σ = [some (.int (n : Int)), some (.ref a), some (.ref D), v3, v4, v5] ∧ NewM H H2 D n M rs) ⟨none, none, none, _, rs, rfl, nm⟩ ?_ ?_
      · rintro mid σ H2 hmid ⟨v3, v4, v5, M2, rs2, rfl, m2⟩
        walk_at "r"
        refine for_range (lo := 0) (n := n) (fun i σ H3 => ∃ (v4 v5 : Option V) (M : Nat → Nat → Bool) (rs : List Addr), σ = [some (.int (n : Int)), some (.ref a), some (.ref D), some (.int ((0 : Int) + mid)), v4, v5] ∧ NewM H H3 D n M rs) ⟨v4, v5, _, rs2, rfl, m2⟩ ?_ ?_
        · rintro x σ H3 hx ⟨v4, v5, M3, rs3, rfl, m3⟩
          walk_at "r"
          refine for_range (lo := 0) (n := n) (fun i σ H4 => ∃ (v5 : Option V) (M : Nat → Nat → Bool) (rs : List Addr), σ = [some (.int (n : Int)), some (.ref a), some (.ref D), some (.int ((0 : Int) + mid)), some (.int ((0 : Int) + x)), v5] ∧ NewM H H4 D n M rs) ⟨v5, _, rs3, rfl, m3⟩ ?_ ?_
          · rintro y σ H4 hy ⟨v5, M4, rs4, rfl, m4⟩
            obtain ⟨r, hr4, har, her⟩ := m4.mat.get hx
            obtain ⟨r2, hr2, har2, her2⟩ := m4.mat.get hmid
            have stay : ∃ (v5 : Option V) (M : Nat → Nat → Bool) (rs : List Addr), [some (V.int (n : Int)), some (.ref a), some (.ref D), some (.int ((0 : Int) + mid)), some (.int ((0 : Int) + x)), some (.int ((0 : Int) + y))] = [some (V.int (n : Int)), some (.ref a), some (.ref D), some (.int ((0 : Int) + mid)), some (.int ((0 : Int) + x)), v5] ∧ NewM H H4 D n M rs := ⟨_, _, _, rfl, m4⟩
            walk_at "r"
            refine ⟨_, _, _, _, rfl, rfl, SqL.of m4.mat.top, (by rw [c0]; exact har), _, rfl, _, _, _, _, rfl, rfl, SqL.of her, (by rw [c0]; exact rowV_at hmid), _, rfl, ?_⟩
            refine iteB (fun c => ?_) (fun c => stay)
            refine ⟨_, rfl, _, rfl, _, _, _, _, rfl, rfl, SqL.of m4.mat.top, (by rw [c0]; exact har2), _, rfl, _, _, _, _, rfl, rfl, SqL.of her2, (by rw [c0]; exact rowV_at hy), _, rfl, ?_⟩
            refine iteB (fun c2 => ?_) (fun c2 => stay)
            walk_at "r"
            refine ⟨_, _, _, _, rfl, rfl, SqL.of m4.mat.top, (by rw [c0]; exact har), _, rfl, _, _, _, _, rfl, rfl, her, (by rw [c0]; exact ixN_nat (by rw [rowV_len]; exact hy)), ?_⟩
            exact ⟨_, _, rs4, rfl, same_mut m4.same (m4.frees r (List.mem_of_getElem? hr4)), m4.mat.put hr4 hy, m4.free, m4.frees⟩
          · rintro σ H4 ⟨v5, M4, rs4, rfl, m4⟩
            exact ⟨_, _, _, _, rfl, m4⟩
        · rintro σ H3 ⟨v4, v5, M3, rs3, rfl, m3⟩
          exact ⟨_, _, _, _, _, rfl, m3⟩
      · rintro σ H2 ⟨v3, v4, v5, M2, rs2, rfl, m2⟩
        walk_at "r"
        exact k D H2 m2.same
end
end Z

set_option Elab.async false
set_option linter.all false
set_option maxRecDepth 100000
set_option maxHeartbeats 1200000
namespace Z
open PySem L2
local macro_rules | `(tactic| walk_at "side") => `(tactic| first | omega | (unfold CMul; omega) | (unfold CDiv; omega) | (unfold CDivN; omega) | (unfold CPow; omega) | decide)
local macro_rules | `(tactic| walk_at "lst") => `(tactic| first | exact SqL.of (by assumption) | exact SqL.of upd_same | assumption | exact upd_same)
local macro_rules | `(tactic| walk_at "r1") => `(tactic| first | refine ⟨_, rfl, ?_⟩ | refine ⟨_, _, rfl, rfl, ?_⟩ | refine Or.inl ⟨_, rfl, ?_⟩ | refine And.intro rfl ?_ | refine ⟨_, _, _, _, rfl, rfl, by walk_at "lst", rfl, ?_⟩ | refine ⟨_, _, rfl, Or.inl (by walk_at "lst"), ?_⟩ | refine And.intro (by walk_at "side") ?_)
local macro_rules | `(tactic| walk_at "r") => `(tactic| repeat walk_at "r1")
theorem dF {i j : Int} (h : i ≠ j) : decide (V.int i = V.int j) = false := by
  rw [dec_i]
  exact decide_eq_false h
theorem dT {i j : Int} (h : i = j) : decide (V.int i = V.int j) = true := by
  rw [dec_i]
  exact decide_eq_true h
theorem ifT {b : Bool} {A B : Prop} (h : b = true) (a : A) : if b = true then A else B := by
  subst h
  exact iteT a
theorem ifF {b : Bool} {A B : Prop} (h : b = false) (a : B) : if b = true then A else B := by
  subst h
  exact iteF a
/-- the heap without the object at h -/
def hid (h : Addr) (H : Hp) : Hp := fun b => if b = h then none else H b
theorem hid_of {h b : Addr} {H : Hp} {o : HO} (e : H b = some o) (n : b ≠ h) : hid h H b = some o := by
  unfold hid
  rw [if_neg n]
  exact e
theorem hid_same {h : Addr} {H : Hp} : Same (hid h H) H := fun b o e => by
  unfold hid at e
  by_cases n : b = h
  · rw [if_pos n] at e
    cases e
  · rw [if_neg n] at e
    exact e
theorem Keep.hid {h : Addr} {H H' : Hp} (k : Keep h H H') : Same (Z.hid h H) (Z.hid h H') := fun b o e => by
  have e1 := hid_same _ _ e
  have n : b ≠ h := fun z => by
    unfold Z.hid at e
    rw [if_pos z] at e
    cases e
  exact hid_of (k b o e1 n) n
def tpO (z : Nat × Nat) : Option HO := some (.tup [.int z.1, .int z.2])
/-- a list of couples of numbers, each in a tuple of its own -/
structure PrsAt (H : Hp) (q : Addr) (as : List Addr) (prs : List (Nat × Nat)) : Prop where
  top : H q = some (.lst (as.map V.ref))
  its : as.map H = prs.map tpO
theorem PrsAt.len {H : Hp} {q : Addr} {as : List Addr} {prs : List (Nat × Nat)} (p : PrsAt H q as prs) : as.length = prs.length := by
  have e := congrArg List.length p.its
  rw [List.length_map, List.length_map] at e
  exact e
theorem PrsAt.mem {H : Hp} {q : Addr} {as : List Addr} {prs : List (Nat × Nat)} (p : PrsAt H q as prs) {a : Addr} (h : a ∈ as) : ∃ z, H a = tpO z := by
  have e : H a ∈ prs.map tpO := by
    rw [← p.its]
    exact List.mem_map_of_mem h
  obtain ⟨z, _, e⟩ := List.mem_map.mp e
  exact ⟨z, e.symm⟩
theorem PrsAt.dpAll {K : PySem.W.Frag} {H : Hp} : ∀ {as : List Addr} {prs : List (Nat × Nat)}, as.map H = prs.map tpO → DpAll K H (as.map V.ref) (prs.map cpD)
  | [], [], _ => .nil
  | a :: as, z :: prs, e => by
    rw [List.map_cons, List.map_cons] at e
    injection e with e1 e2
    exact .cons (.tup (SqT.of e1) (.cons (.int _) (.cons (.int _) .nil))) (PrsAt.dpAll e2)
  | [], _ :: _, e => by cases e
  | _ :: _, [], e => by cases e
theorem PrsAt.dp {K : PySem.W.Frag} {H : Hp} {q : Addr} {as : List Addr} {prs : List (Nat × Nat)} (p : PrsAt H q as prs) : Dp K H (.ref q) (.list (prs.map cpD)) := .lst (SqL.of p.top) (PrsAt.dpAll p.its)
theorem map_same {H H' : Hp} {as : List Addr} {prs : List (Nat × Nat)} (e : as.map H = prs.map tpO) (s : ∀ a ∈ as, ∀ o, H a = some o → H' a = some o) : as.map H' = prs.map tpO := by
  rw [← e]
  refine List.map_congr_left fun a ha => ?_
  have m : H a ∈ prs.map tpO := by
    rw [← e]
    exact List.mem_map_of_mem ha
  obtain ⟨z, _, ez⟩ := List.mem_map.mp m
  rw [← ez]
  exact s a ha _ ez.symm
theorem PrsAt.same {H H' : Hp} {q : Addr} {as : List Addr} {prs : List (Nat × Nat)} (p : PrsAt H q as prs) (s : Same H H') : PrsAt H' q as prs := ⟨s _ _ p.top, map_same p.its fun a _ o => s a o⟩
theorem PrsAt.keep {H H' : Hp} {q h ha : Addr} {as : List Addr} {prs : List (Nat × Nat)} (p : PrsAt H q as prs) (k : Keep h H H') (n : q ≠ h) (hn : Hnd H h ha) : PrsAt H' q as prs := by
  refine ⟨k _ _ p.top n, map_same p.its fun a ma o e => k a o e fun z => ?_⟩
  obtain ⟨w, e2⟩ := p.mem ma
  obtain ⟨cs, i, r, t, e1, _⟩ := hn.ex
  rw [z, e1] at e2
  cases e2
/-- told.append of a new couple -/
theorem PrsAt.push {H : Hp} {q a : Addr} {as : List Addr} {prs : List (Nat × Nat)} {z : Nat × Nat} (p : PrsAt H q as prs) (e : H a = tpO z) : PrsAt (upd H q (.lst (as.map V.ref ++ [.ref a]))) q (as ++ [a]) (prs ++ [z]) := by
  have nq : ∀ b w, H b = tpO w → b ≠ q := fun b w eb n => by
    rw [n, p.top] at eb
    cases eb
  refine ⟨by rw [upd_same, List.map_append]; rfl, ?_⟩
  rw [List.map_append, List.map_append]
  refine congr (congrArg _ (map_same p.its fun b mb o eb => ?_)) ?_
  · obtain ⟨w, e2⟩ := p.mem mb
    rw [upd_ne (nq b w e2)]
    exact eb
  · show [upd H q _ a] = [tpO z]
    rw [upd_ne (nq a z e), e]
theorem Keep.free {h b : Addr} {H H' : Hp} (k : Keep h H H') (n : H' b = none) (ne : b ≠ h) : H b = none := by
  cases e : H b with
  | none => rfl
  | some o =>
    rw [k b o e ne] at n
    cases n
/-- a new couple put behind the list at q -/
theorem PrsAt.grow {H H8 : Hp} {h ha q nm : Addr} {L : List V} {as : List Addr} {prs : List (Nat × Nat)} (k8 : Keep h H H8) (n8 : Hnd H8 h ha) (e8 : H8 nm = some (.lst L)) (p8 : PrsAt H8 q as prs) (qn : q ≠ nm) (qh : q ≠ h) (qa : q ≠ ha) (hq : H q = none) {p : Addr} (hp : H8 p = none) (x y : Nat) :
    Keep h H (upd (upd H8 p (.tup [.int x, .int y])) q (.lst (as.map V.ref ++ [.ref p]))) ∧ Hnd (upd (upd H8 p (.tup [.int x, .int y])) q (.lst (as.map V.ref ++ [.ref p]))) h ha ∧
    upd (upd H8 p (.tup [.int x, .int y])) q (.lst (as.map V.ref ++ [.ref p])) nm = some (.lst L) ∧ PrsAt (upd (upd H8 p (.tup [.int x, .int y])) q (.lst (as.map V.ref ++ [.ref p]))) q (as ++ [p]) (prs ++ [(x, y)]) := by
  refine ⟨(k8.trans (Keep.new hp)).mut hq, (n8.new hp).off qh qa, ?_, (p8.same (same_new hp)).push upd_same⟩
  rw [upd_ne qn.symm]
  exact same_new hp _ _ e8
abbrev s_lor : Stmt := top 23
def spLOr (K : PySem.W.Frag) : Sp := fun vs H Q _ => ∃ (h ha : Addr) (m : Int), vs = [.ref h, .int m] ∧ Hnd H h ha ∧ 3 ≤ m ∧ m ≤ 24 ∧
  ∀ p q b as (n : Nat) prs H', Keep h H H' → Hnd H' h ha → 2 ≤ n → n ≤ 24 → prs.length ≤ 560 → (∀ z ∈ prs, z.1 < n ∧ z.2 < n) → H' p = some (.tup [.int (n : Nat), .ref q, .ref b]) → PrsAt H' q as prs → Q (.ref p) H'
section
variable {P : Program} {w : World} {K : PySem.W.Frag} {mg : Str → Option Value} {base : Heap}
theorem sc_lor : FnScope ["hand", "most", "n", "way", "names", "pairs", "y", "x"] ["hand", "most"] (defScope s_lor) := ⟨rfl, rfl, rfl, by decide +kernel, rfl, by decide +kernel, by decide +kernel⟩
theorem ok_lor {f : Addr} {fd : FuncData} (F : Fun K "_law_order" "_law_order" s_lor f fd) (T : Bl mg) (c_law_draw : Cal P w K mg base CX0 "_law_draw" 2 spDraw) (c_law_shuffled : Cal P w K mg base CX0 "_law_shuffled" 3 (spShuf K)) (c_law_closed : Cal P w K mg base CX0 "_law_closed" 1 (spLC K)) : FnOk P w K mg base CX0 4 f fd ["hand", "most"] (spLOr K) := by
  refine F.ok sc_lor (fun vs H Q E h => ?_) (fun cdv A outer s H vs Q E hr h => ?_)
  · obtain ⟨h, ha, m, rfl, _⟩ := h
    rfl
  · obtain ⟨h, ha, m, rfl, hn, h3, h24, k⟩ := h
    refine ⟨_,
      (pss_cons (ps_set (i := 2) sc_lor.nd rfl (Or.inl rfl) (pe_op op_add pe_int (pe_cal c_law_draw (hr.mono (by decide)) (by rfl) (pa_cons (pv 0) (pa_cons (pe_op op_sub (pv 1) pe_int) pa_nil)))))
      (pss_cons (ps_set (i := 3) sc_lor.nd rfl (Or.inl rfl) (pe_cal c_law_draw (hr.mono (by decide)) (by rfl) (pa_cons (pv 0) (pa_cons pe_int pa_nil))))
      (pss_cons (ps_set (i := 4) sc_lor.nd rfl (Or.inl rfl) (pe_op op_cat (pe_lst (pa_cons pe_int pa_nil)) (pe_cal c_law_shuffled (hr.mono (by decide)) (by rfl) (pa_cons (pv 0) (pa_cons (pe_lc (own := [("x", 7)]) (by rfl) sc_lor.nd (pi_range2 (by rfl) T.n_range (pa_cons pe_int (pa_cons (pv 2) pa_nil))) (blkOk_by (own := [("x", 7)]) (by show blkC ["hand", "most", "n", "way", "names", "pairs", "y", "x"] (defScope s_lor) _ _ = true; decide +kernel)) (fun _ _ _ _ _ => (pg_name (i := 7) sc_lor.nd rfl (Or.inl rfl))) (fun _ _ _ _ _ => pts_nil) (fun _ _ _ _ _ => (pv 7))) pa_nil)))))
      (pss_cons (ps_setLc (i := 5) (own := [("x", 7)]) (by rfl) sc_lor.nd rfl rfl (sw_true rfl rfl rfl (by decide +kernel)) (pi_range2 (by rfl) T.n_range (pa_cons pe_int (pa_cons (pv 2) pa_nil))) (blkOk_by (own := [("x", 7)]) (by show blkC ["hand", "most", "n", "way", "names", "pairs", "y", "x"] (defScope s_lor) _ _ = true; decide +kernel)) (fun _ _ _ _ _ => (pg_name (i := 7) sc_lor.nd rfl (Or.inl rfl))) (fun _ _ _ _ _ => pts_nil) (fun _ _ _ _ _ => (pe_tup (pa_cons pe_int (pa_cons (pv 7) pa_nil)))))
      (pss_cons (ps_for PassesOwn.never rfl (pi_range2 (by rfl) T.n_range (pa_cons pe_int (pa_cons (pv 2) pa_nil))) (pg_name (i := 6) sc_lor.nd rfl (Or.inl rfl))
        (pss_cons (ps_if (pt_cmpR op_eq (pv 3) pe_int (nomark _))
          (pss_one (ps_expr (pe_bm PySem.F.plainAttrs_list PySem.F.slot_list_append PySem.F.type_list_append mt_append (pv 5) (pa_cons (pe_tup (pa_cons (pe_ix (kix_list K) (pv 4) (pe_op op_sub (pv 6) pe_int) (fun _ _ => rfl)) (pa_cons (pe_ix (kix_list K) (pv 4) (pv 6) (fun _ _ => rfl)) pa_nil))) pa_nil))))
          pss_nil)
        (pss_cons (ps_if (PW.pt (pw_or (pt_cmpR op_eq (pv 3) pe_int (nomark _)) (pw_or1 (pt_cmpR op_eq (pv 3) pe_int (nomark _)))))
          (pss_one (ps_expr (pe_bm PySem.F.plainAttrs_list PySem.F.slot_list_append PySem.F.type_list_append mt_append (pv 5) (pa_cons (pe_tup (pa_cons (pe_ix (kix_list K) (pv 4) (pe_cal c_law_draw (hr.mono (by decide)) (by rfl) (pa_cons (pv 0) (pa_cons (pv 6) pa_nil))) (fun _ _ => rfl)) (pa_cons (pe_ix (kix_list K) (pv 4) (pv 6) (fun _ _ => rfl)) pa_nil))) pa_nil))))
          pss_nil)
        (pss_one (ps_if (pt_cmpR op_gt (pv 3) pe_int (nomark _))
          (pss_one (ps_for PassesOwn.never rfl (pi_range2 (by rfl) T.n_range (pa_cons pe_int (pa_cons (pv 6) pa_nil))) (pg_name (i := 7) sc_lor.nd rfl (Or.inl rfl))
            (pss_one (ps_if (pt_cmpR op_eq (pe_cal c_law_draw (hr.mono (by decide)) (by rfl) (pa_cons (pv 0) (pa_cons pe_int pa_nil))) pe_int (nomark _))
              (pss_one (ps_expr (pe_bm PySem.F.plainAttrs_list PySem.F.slot_list_append PySem.F.type_list_append mt_append (pv 5) (pa_cons (pe_tup (pa_cons (pe_ix (kix_list K) (pv 4) (pv 7) (fun _ _ => rfl)) (pa_cons (pe_ix (kix_list K) (pv 4) (pv 6) (fun _ _ => rfl)) pa_nil))) pa_nil))))
              pss_nil))))
          pss_nil)))))
      (pss_one (ps_ret (pe_tup (pa_cons (pv 2) (pa_cons (pv 5) (pa_cons (pe_cal c_law_closed (hr.mono (by decide)) (by rfl) (pa_cons (pv 2) (pa_cons (pv 5) pa_nil))) pa_nil)))))))))))
      , ?_⟩
    walk_at "r"
    refine ⟨h, ha, _, rfl, hn, by omega, by omega, fun d H1 d0 d1 k1 n1 f1 => ?_⟩
    walk_at "r"
    refine ⟨h, ha, _, rfl, n1, by omega, by omega, fun way H2 w0 w1 k2 n2 f2 => ?_⟩
    have ed : ((d.toNat : Nat) : Int) = d := by omega
    walk_at "r"
    intro z0 hz0
    walk_at "r"
    obtain ⟨N, eN⟩ : ∃ N : Nat, (2 : Int) + d = (N : Int) := ⟨(2 + d).toNat, by omega⟩
    have hN2 : 2 ≤ N := by omega
    have hN24 : N ≤ 24 := by omega
    have kz : Keep h H (upd H2 z0 (.lst [.int 0])) := (k1.trans k2).trans (Keep.new hz0)
    have nz : Hnd (upd H2 z0 (.lst [.int 0])) h ha := n2.new hz0
    have ez : upd H2 z0 (.lst [.int 0]) z0 = some (.lst [.int 0]) := upd_same
    generalize upd H2 z0 (.lst [.int 0]) = H3 at kz nz ez ⊢
    refine ⟨_, _, rfl, ⟨by omega, by omega, by omega, by omega⟩, ?_⟩
    intro D hD
    refine lc_range (lo := 1) (n := (2 + d - 1).toNat) (fun i H' => Same H3 H' ∧ H' D = some (.lst ((List.range i).map fun (j : Nat) => V.int (1 + (j : Int))))) ⟨same_new hD, upd_same⟩ ?_ ?_
    · rintro i H' hi ⟨s1, e1⟩
      refine ⟨rfl, _, rfl, _, e1, small1000 (by simp; omega), same_mut s1 hD, ?_⟩
      rw [upd_same, List.range_succ, List.map_append]
      rfl
    · rintro H' ⟨s1, e1⟩
      have hDh : D ≠ h := nz.ne hD
      have kD : ∀ H'', Keep h H' H'' → SqL K H'' D ((List.range (2 + d - 1).toNat).map fun (j : Nat) => V.int (1 + (j : Int))) := fun H'' kk => SqL.of (kk _ _ e1 hDh)
      refine ⟨h, ha, D, _, rfl, nz.same s1, .inl (SqL.of e1), fun H'' kk => .inl (kD H'' kk), (by simp; omega), fun l ws H4 pm k4 n4 hl el => ?_⟩
      have lh : l ≠ h := (nz.same s1).ne hl
      have k3 : Keep h H3 H4 := (Keep.of_same s1).trans k4
      have ez4 := k3 _ _ ez (fun z => by
        obtain ⟨cs, i, r, t, q1, _⟩ := nz.ex
        rw [z, q1] at ez
        cases ez)
      have wlen : ws.length = N - 1 := by
        rw [pm.length_eq]
        simp
        omega
      refine ⟨z0, l, _, ws, rfl, rfl, ez4, el, (by show 1 + ws.length ≤ sizeLine; exact Nat.le_of_lt (small1000 (by omega))), fun nm hnm => ?_⟩
      have names : ∀ i, i < N → ∃ x : Nat, x < N ∧ (V.int 0 :: ws)[i]? = some (.int (x : Int)) := fun i hi => by
        cases i with
        | zero => exact ⟨0, by omega, rfl⟩
        | succ i =>
          have hil : i < ws.length := by omega
          have mem : ws[i] ∈ (List.range (2 + d - 1).toNat).map fun (j : Nat) => V.int (1 + (j : Int)) := pm.mem_iff.mp (List.getElem_mem hil)
          obtain ⟨j, hj, e⟩ := List.mem_map.mp mem
          have hj' := List.mem_range.mp hj
          refine ⟨1 + j, by omega, ?_⟩
          rw [List.getElem?_cons_succ, List.getElem?_eq_getElem hil, ← e]
          congr 2
      have nmh : nm ≠ h := n4.ne hnm
      have k5 : Keep h H (upd H4 nm (.lst ([V.int 0] ++ ws))) := (kz.trans k3).trans (Keep.new hnm)
      have n5 : Hnd (upd H4 nm (.lst ([V.int 0] ++ ws))) h ha := n4.new hnm
      have e5 : upd H4 nm (.lst ([V.int 0] ++ ws)) nm = some (.lst (V.int 0 :: ws)) := upd_same
      generalize upd H4 nm (.lst ([V.int 0] ++ ws)) = H5 at k5 n5 e5 ⊢
      walk_at "r"
      refine ⟨_, _, rfl, ⟨by omega, by omega, by omega, by omega⟩, ?_⟩
      intro q hq
      have qh : q ≠ h := n5.ne hq
      refine lc_range (lo := 1) (n := (2 + d - 1).toNat) (fun i H' => ∃ as prs, Same H5 H' ∧ PrsAt H' q as prs ∧ prs.length = i ∧ ∀ z ∈ prs, z.1 < N ∧ z.2 < N) ⟨[], [], same_new hq, ⟨upd_same, rfl⟩, rfl, fun _ h => nomatch h⟩ ?_ ?_
      · rintro i H6 hi ⟨as, prs, s6, pa, pl, pb⟩
        refine ⟨rfl, ?_⟩
        walk_at "r"
        refine ⟨(by show 2 ≤ sizeLine; decide), fun p hp => ?_⟩
        have ec : (1 : Int) + (i : Nat) = ((1 + i : Nat) : Int) := by omega
        have et : upd H6 p (.tup [V.int 0, V.int (1 + (i : Nat))]) p = tpO (0, 1 + i) := by
          rw [upd_same]
          unfold tpO
          rw [ec]
          rfl
        have p6 := (pa.same (same_new (o := .tup [V.int 0, V.int (1 + (i : Nat))]) hp))
        refine ⟨_, p6.top, small1000 (by rw [List.length_map, pa.len]; omega), as ++ [p], prs ++ [(0, 1 + i)], same_mut (s6.trans (same_new hp)) hq, p6.push et, by simp [pl], fun z hz => ?_⟩
        rcases List.mem_append.mp hz with hz | hz
        · exact pb z hz
        · have e : z = (0, 1 + i) := by simpa using hz
          rw [e]
          exact ⟨by omega, by show 1 + i < N; omega⟩
      · rintro H6 ⟨as, prs, s6, pa, pl, pb⟩
        have k6 : Keep h H H6 := k5.trans (Keep.of_same s6)
        have n6 : Hnd H6 h ha := n5.same s6
        have e6 := s6 _ _ e5
        have qa : q ≠ ha := n5.nea hq
        have hqH : H q = none := k5.free hq qh
        clear s6 hq e5 n5 k5
        walk_at "r"
        refine ⟨_, _, rfl, ⟨by omega, by omega, by omega, by omega⟩, ?_⟩
        refine for_range (lo := 2) (n := (2 + d - 2).toNat) (fun i σ H' => ∃ (v6 v7 : Option V) (as : List Addr) (prs : List (Nat × Nat)), σ = [some (.ref h), some (.int m), some (.int (2 + d)), some (.int way), some (.ref nm), some (.ref q), v6, v7] ∧ Keep h H H' ∧ Hnd H' h ha ∧ H' nm = some (.lst (V.int 0 :: ws)) ∧ PrsAt H' q as prs ∧ prs.length ≤ 24 + i * 24 ∧ ∀ z ∈ prs, z.1 < N ∧ z.2 < N)
          ⟨none, none, as, prs, rfl, k6, n6, e6, pa, by omega, pb⟩ ?_ ?_
        · rintro i σ H7 hi ⟨v6, v7, as7, prs7, rfl, k7, n7, e7, p7, l7, b7⟩
          have i24 : i < 22 := by omega
          obtain ⟨yv, hyv, eyv⟩ := names (2 + i) (by omega)
          have iy : atI (V.int 0 :: ws) ((2 : Int) + i) = some (.int (yv : Int)) := by
            have e : (2 : Int) + (i : Nat) = ((2 + i : Nat) : Int) := by omega
            rw [e]
            exact atI_nat eyv
          have fin : ∀ (v : Option V) (as' : List Addr) (prs' : List (Nat × Nat)) (H8 : Hp), Keep h H H8 → Hnd H8 h ha → H8 nm = some (.lst (V.int 0 :: ws)) → PrsAt H8 q as' prs' → prs'.length ≤ prs7.length + 24 → (∀ z ∈ prs', z.1 < N ∧ z.2 < N) →
              ∃ (v6 v7 : Option V) (as : List Addr) (prs : List (Nat × Nat)), [some (V.ref h), some (.int m), some (.int (2 + d)), some (.int way), some (.ref nm), some (.ref q), some (.int (2 + i)), v] = [some (V.ref h), some (.int m), some (.int (2 + d)), some (.int way), some (.ref nm), some (.ref q), v6, v7] ∧ Keep h H H8 ∧ Hnd H8 h ha ∧ H8 nm = some (.lst (V.int 0 :: ws)) ∧ PrsAt H8 q as prs ∧ prs.length ≤ 24 + (i + 1) * 24 ∧ ∀ z ∈ prs, z.1 < N ∧ z.2 < N :=
            fun v as' prs' H8 a b c e f g => ⟨_, _, as', prs', rfl, a, b, c, e, by omega, g⟩
          have qnm : q ≠ nm := fun z => by
            have e1 := p7.top
            rw [z, e7] at e1
            cases as7 <;> cases e1
          by_cases w1' : way = 1
          · subst w1'
            walk_at "r"
            refine ⟨.inl ⟨rfl, _, SqL.of p7.top⟩, ?_⟩
            walk_at "r"
            obtain ⟨xv, hxv, exv⟩ := names (1 + i) (by omega)
            have ix : atI (V.int 0 :: ws) ((2 : Int) + i - 1) = some (.int (xv : Int)) := by
              have e : (2 : Int) + (i : Nat) - 1 = ((1 + i : Nat) : Int) := by omega
              rw [e]
              exact atI_nat exv
            refine ⟨_, _, _, _, rfl, rfl, SqL.of e7, ix, ?_⟩
            refine ⟨_, rfl, _, rfl, _, _, _, _, rfl, rfl, SqL.of e7, iy, ?_⟩
            walk_at "r"
            refine ⟨(by show 2 ≤ sizeLine; decide), fun p hp => ?_⟩
            obtain ⟨kg, ng, eg, pg⟩ := PrsAt.grow k7 n7 e7 p7 qnm qh qa hqH hp xv yv
            refine ⟨q, _, _, rfl, rfl, (p7.same (same_new hp)).top, small1000 (by rw [List.length_map, p7.len]; omega), ?_⟩
            walk_at "r"
            exact fin v7 _ _ _ kg ng eg pg (by simp) (fun z hz => by
              rcases List.mem_append.mp hz with hz | hz
              · exact b7 z hz
              · have e : z = (xv, yv) := by simpa using hz
                rw [e]
                exact ⟨hxv, hyv⟩)
          by_cases h0 : way = 0
          · subst h0
            walk_at "r"
            exact fin v7 _ _ _ k7 n7 e7 p7 (by omega) b7
          by_cases h23 : way = 2 ∨ way = 3
          · rcases h23 with rfl | rfl
            all_goals
              walk_at "r"
              refine ⟨.inl ⟨rfl, _, SqL.of p7.top⟩, ?_⟩
              walk_at "r"
              refine ⟨h, ha, _, rfl, n7, by omega, by omega, fun dd H8 dd0 dd1 k8 n8 _ => ?_⟩
              have e8 := k8 _ _ e7 nmh
              have p8 := p7.keep k8 qh n7
              obtain ⟨xv, hxv, exv⟩ := names dd.toNat (by omega)
              have ix : atI (V.int 0 :: ws) dd = some (.int (xv : Int)) := by
                have e : dd = ((dd.toNat : Nat) : Int) := by omega
                rw [e]
                exact atI_nat exv
              refine ⟨_, _, _, _, rfl, rfl, SqL.of e8, ix, ?_⟩
              refine ⟨_, rfl, _, rfl, _, _, _, _, rfl, rfl, SqL.of e8, iy, ?_⟩
              walk_at "r"
              refine ⟨(by show 2 ≤ sizeLine; decide), fun p hp => ?_⟩
              obtain ⟨kg, ng, eg, pg⟩ := PrsAt.grow (k7.trans k8) n8 e8 p8 qnm qh qa hqH hp xv yv
              refine ⟨q, _, _, rfl, rfl, (p8.same (same_new hp)).top, small1000 (by rw [List.length_map, p8.len]; omega), ?_⟩
              walk_at "r"
              exact fin v7 _ _ _ kg ng eg pg (by simp) (fun z hz => by
                rcases List.mem_append.mp hz with hz | hz
                · exact b7 z hz
                · have e : z = (xv, yv) := by simpa using hz
                  rw [e]
                  exact ⟨hxv, hyv⟩)
          have h4 : 3 < way := by omega
          have c1 := dF w1'
          have c2 : decide (V.int way = V.int 2) = false := dF (by omega)
          have c3 : decide (V.int way = V.int 3) = false := dF (by omega)
          walk_at "r"
          refine ifF c1 ?_
          walk_at "r"
          refine ifF c2 ?_
          walk_at "r"
          refine ifF c3 ?_
          walk_at "r"
          refine ifT (decide_eq_true h4) ?_
          walk_at "r"
          refine ⟨_, _, rfl, ⟨by omega, by omega, by omega, by omega⟩, ?_⟩
          refine for_range (lo := 1) (n := ((2 : Int) + i - 1).toNat) (fun j σ H' => ∃ (v7 : Option V) (as : List Addr) (prs : List (Nat × Nat)), σ = [some (.ref h), some (.int m), some (.int (2 + d)), some (.int way), some (.ref nm), some (.ref q), some (.int (2 + i)), v7] ∧ Keep h H H' ∧ Hnd H' h ha ∧ H' nm = some (.lst (V.int 0 :: ws)) ∧ PrsAt H' q as prs ∧ prs.length ≤ prs7.length + j ∧ ∀ z ∈ prs, z.1 < N ∧ z.2 < N)
            ⟨v7, as7, prs7, rfl, k7, n7, e7, p7, by omega, b7⟩ ?_ ?_
          · rintro j σ H8 hj ⟨v8, as8, prs8, rfl, k8, n8, e8, p8, l8, b8⟩
            obtain ⟨xv, hxv, exv⟩ := names (1 + j) (by omega)
            have ix : atI (V.int 0 :: ws) ((1 : Int) + j) = some (.int (xv : Int)) := by
              have e : (1 : Int) + (j : Nat) = ((1 + j : Nat) : Int) := by omega
              rw [e]
              exact atI_nat exv
            walk_at "r"
            refine ⟨h, ha, _, rfl, n8, by omega, by omega, fun dd H9 dd0 dd1 k9 n9 _ => ?_⟩
            have e9 := k9 _ _ e8 nmh
            have p9 := p8.keep k9 qh n8
            walk_at "r"
            refine iteB (fun c => ?_) (fun c => ?_)
            · walk_at "r"
              refine ⟨.inl ⟨rfl, _, SqL.of p9.top⟩, ?_⟩
              walk_at "r"
              refine ⟨_, _, _, _, rfl, rfl, SqL.of e9, ix, ?_⟩
              refine ⟨_, rfl, _, rfl, _, _, _, _, rfl, rfl, SqL.of e9, iy, ?_⟩
              walk_at "r"
              refine ⟨(by show 2 ≤ sizeLine; decide), fun p hp => ?_⟩
              obtain ⟨kg, ng, eg, pg⟩ := PrsAt.grow (k8.trans k9) n9 e9 p9 qnm qh qa hqH hp xv yv
              refine ⟨q, _, _, rfl, rfl, (p9.same (same_new hp)).top, small1000 (by rw [List.length_map, p9.len]; omega), ?_⟩
              refine ⟨_, _, _, rfl, kg, ng, eg, pg, by rw [List.length_append]; show _ + 1 ≤ _; omega, fun z hz => ?_⟩
              rcases List.mem_append.mp hz with hz | hz
              · exact b8 z hz
              · have e : z = (xv, yv) := by simpa using hz
                rw [e]
                exact ⟨hxv, hyv⟩
            · exact ⟨_, _, _, rfl, k8.trans k9, n9, e9, p9, by omega, b8⟩
          · rintro σ H8 ⟨v8, as8, prs8, rfl, k8, n8, e8, p8, l8, b8⟩
            exact fin _ _ _ _ k8 n8 e8 p8 (by omega) b8
        · rintro σ H7 ⟨v6, v7, as7, prs7, rfl, k7, n7, e7, p7, l7, b7⟩
          walk_at "r"
          refine ⟨N, q, prs7, by rw [← eN]; rfl, hN24, p7.dp, fun b H8 s8 => ?_⟩
          walk_at "r"
          refine ⟨(by show 3 ≤ sizeLine; decide), fun p hp => ?_⟩
          refine k p q b as7 N prs7 _ (k7.trans ((Keep.of_same s8).trans (Keep.new hp))) ((n7.same s8).new hp) hN2 hN24 (by omega) b7 ?_ ((p7.same s8).same (same_new hp))
          rw [upd_same, ← eN]
end
end Z

set_option Elab.async false
set_option linter.all false
set_option maxRecDepth 100000
set_option maxHeartbeats 1200000
namespace Z
open PySem L2
local macro_rules | `(tactic| walk_at "side") => `(tactic| first | omega | (unfold CMul; omega) | (unfold CDiv; omega) | (unfold CDivN; omega) | (unfold CPow; omega) | decide)
local macro_rules | `(tactic| walk_at "lst") => `(tactic| first | exact SqL.of (by assumption) | exact SqL.of upd_same | assumption | exact upd_same)
local macro_rules | `(tactic| walk_at "r1") => `(tactic| first | refine ⟨_, rfl, ?_⟩ | refine ⟨_, _, rfl, rfl, ?_⟩ | refine Or.inl ⟨_, rfl, ?_⟩ | refine And.intro rfl ?_ | refine ⟨_, _, _, _, rfl, rfl, by walk_at "lst", rfl, ?_⟩ | refine ⟨_, _, rfl, Or.inl (by walk_at "lst"), ?_⟩ | refine And.intro (by walk_at "side") ?_)
local macro_rules | `(tactic| walk_at "r") => `(tactic| repeat walk_at "r1")
abbrev s_state : Stmt := top 28
abbrev s_exact : Stmt := top 24
def spState (K : PySem.W.Frag) : Sp := fun vs H Q _ => ∃ (n : Int) (x : V) (d : PyData), vs = [.int n, x] ∧ Dp K H x d ∧ Q (.bl (whole d (some 0) (some (n - 1)))) H
def spEx (K : PySem.W.Frag) (S : PyData → Bool) : Sp := fun vs H Q _ => ∃ (x y : V) (d : PyData), vs = [x, y] ∧ Dp K H x d ∧ Dp K H y d ∧ S d = true ∧ ∀ H', Same H H' → Q (.bl true) H'
def lift (S : PyData → Bool) : PyData → Bool
  | .tuple ds => ds.all S && decide (ds.length ≤ 100)
  | .none => true
  | .bool _ => true
  | .int _ => true
  | .str _ => true
  | _ => false
section
variable {P : Program} {w : World} {K : PySem.W.Frag} {mg : Str → Option Value} {base : Heap}
theorem sc_state : FnScope ["n", "x"] ["n", "x"] (defScope s_state) := ⟨rfl, rfl, rfl, by decide +kernel, rfl, by decide +kernel, by decide +kernel⟩
theorem ok_state {f : Addr} {fd : FuncData} (F : Fun K "_law_state" "_law_state" s_state f fd) (T : Bl mg) : FnOk P w K mg base CX0 1 f fd ["n", "x"] (spState K) := by
  refine F.ok sc_state (fun vs H Q E h => ?_) (fun cdv A outer s H vs Q E hr h => ?_)
  · obtain ⟨n, x, d, rfl, _⟩ := h
    rfl
  · obtain ⟨n, x, d, rfl, hd, k⟩ := h
    refine ⟨_,
      (pss_one (ps_ret (pe_and (pe_callB (kisi K) (by rfl) T.n_isinstance (by decide +kernel) (pa_cons (pv 1) (pa_cons (pe_bltn (v := .ty "int") (u := .type "int") (by rfl) T.n_int (by decide +kernel) rfl) pa_nil))) (pe_and (pe_not (pe_callB (kisi K) (by rfl) T.n_isinstance (by decide +kernel) (pa_cons (pv 1) (pa_cons (pe_bltn (v := .ty "bool") (u := .type "bool") (by rfl) T.n_bool (by decide +kernel) rfl) pa_nil)))) (pe_one (pe_chain op_le op_lt pe_int (pv 1) (pv 0)))))))
      , ?_⟩
    walk_at "r"
    refine ⟨_, _, _, _, _, rfl, .ty _, ty_of_dp hd, kit_ty (kb_int d), ?_⟩
    refine ⟨_, rfl, ?_⟩
    refine iteB (fun c => ?_) (fun c => ?_)
    · walk_at "r"
      refine ⟨_, _, _, _, _, rfl, .ty _, ty_of_dp hd, kit_ty (kb_bool d), ?_⟩
      cases d with
      | bool b =>
        cases hd
        walk_at "r"
        exact k
      | int i =>
        cases hd
        walk_at "r"
        refine iteB (fun c3 => ?_) (fun c3 => ?_)
        · walk_at "r"
          have e : whole (.int i) (some 0) (some (n - 1)) = decide (i < n) := by
            have h0 := of_decide_eq_true c3
            simp only [whole]
            rw [decide_eq_true h0, Bool.true_and]
            by_cases hh : i < n
            · rw [decide_eq_true hh, decide_eq_true (by omega)]
            · rw [decide_eq_false hh, decide_eq_false (by omega)]
          rw [e] at k
          exact k
        · have e : whole (.int i) (some 0) (some (n - 1)) = false := by
            simp only [whole]
            rw [c3, Bool.false_and]
          rw [e] at k
          exact k
      | _ => cases c
    · cases d <;> first | (cases c; done) | exact k
theorem sc_exact : FnScope ["told", "due", "k"] ["told", "due"] (defScope s_exact) := ⟨rfl, rfl, rfl, by decide +kernel, rfl, by decide +kernel, by decide +kernel⟩
theorem ok_exact {j : Nat} {S : PyData → Bool} {f : Addr} {fd : FuncData} (F : Fun K "_law_exact" "_law_exact" s_exact f fd) (T : Bl mg) (c_law_exact : Cal P w K mg base CX0 "_law_exact" j (spEx K S)) : FnOk P w K mg base CX0 (j + 1) f fd ["told", "due"] (spEx K (lift S)) := by
  refine F.ok sc_exact (fun vs H Q E h => ?_) (fun cdv A outer s H vs Q E hr h => ?_)
  · obtain ⟨x, y, d, rfl, _⟩ := h
    rfl
  · obtain ⟨x, y, d, rfl, hx, hy, hS, k⟩ := h
    refine ⟨_,
      (pss_cons (ps_if (pt_val (pe_callB (kisi K) (by rfl) T.n_isinstance (by decide +kernel) (pa_cons (pv 1) (pa_cons (pe_bltn (v := .ty "tuple") (u := .type "tuple") (by rfl) T.n_tuple (by decide +kernel) rfl) pa_nil))))
        (pss_cons (ps_if (PW.pt (pw_or (pt_not (pt_val (pe_callB (kisi K) (by rfl) T.n_isinstance (by decide +kernel) (pa_cons (pv 0) (pa_cons (pe_bltn (v := .ty "tuple") (u := .type "tuple") (by rfl) T.n_tuple (by decide +kernel) rfl) pa_nil))))) (pw_or1 (pt_cmpR op_ne (pe_callB (klen K) (by rfl) T.n_len PySem.boot_len (pa_cons (pv 0) pa_nil)) (pe_callB (klen K) (by rfl) T.n_len PySem.boot_len (pa_cons (pv 1) pa_nil)) (nomark _)))))
          (pss_one (ps_ret pe_bl))
          pss_nil)
        (pss_one (ps_ret (pe_cmpR (keqD K hr.units) (pe_lc (own := [("k", 2)]) (by rfl) sc_exact.nd (pi_range1 (by rfl) T.n_range (pa_cons (pe_callB (klen K) (by rfl) T.n_len PySem.boot_len (pa_cons (pv 1) pa_nil)) pa_nil)) (blkOk_by (own := [("k", 2)]) (by show blkC ["told", "due", "k"] (defScope s_exact) _ _ = true; decide +kernel)) (fun _ _ _ _ _ => (pg_name (i := 2) sc_exact.nd rfl (Or.inl rfl))) (fun _ _ _ _ _ => (pts_one (pt_not (pt_val (pe_cal c_law_exact hr (by rfl) (pa_cons (pe_ix (kix_tup K) (pv 0) (pv 2) (fun _ _ => rfl)) (pa_cons (pe_ix (kix_tup K) (pv 1) (pv 2) (fun _ _ => rfl)) pa_nil))))))) (fun _ _ _ _ _ => (pv 2))) (pe_lst pa_nil) (nomark _)))))
        pss_nil)
      (pss_cons (ps_if (pt_cmpR op_isN (pv 1) pe_non (nomark _))
        (pss_one (ps_ret (pe_cmpR op_isN (pv 0) pe_non (nomark _))))
        pss_nil)
      (pss_cons (ps_if (pt_val (pe_callB (kisi K) (by rfl) T.n_isinstance (by decide +kernel) (pa_cons (pv 1) (pa_cons (pe_bltn (v := .ty "bool") (u := .type "bool") (by rfl) T.n_bool (by decide +kernel) rfl) pa_nil))))
        (pss_one (ps_ret (pe_ifExp (kt_truth K (pv 1) (by intro _; rfl)) (pe_cmpR op_is_bl (pv 0) pe_bl (nomark _)) (pe_cmpR op_is_bl (pv 0) pe_bl (nomark _)))))
        pss_nil)
      (pss_cons (ps_if (pt_val (pe_callB (kisi K) (by rfl) T.n_isinstance (by decide +kernel) (pa_cons (pv 1) (pa_cons (pe_bltn (v := .ty "str") (u := .type "str") (by rfl) T.n_str (by decide +kernel) rfl) pa_nil))))
        (pss_one (ps_ret (pe_and (pe_callB (kisi K) (by rfl) T.n_isinstance (by decide +kernel) (pa_cons (pv 0) (pa_cons (pe_bltn (v := .ty "str") (u := .type "str") (by rfl) T.n_str (by decide +kernel) rfl) pa_nil))) (pe_one (pe_cmpR op_eq (pv 0) (pv 1) (nomark _))))))
        pss_nil)
      (pss_one (ps_ret (pe_and (pe_callB (kisi K) (by rfl) T.n_isinstance (by decide +kernel) (pa_cons (pv 0) (pa_cons (pe_bltn (v := .ty "int") (u := .type "int") (by rfl) T.n_int (by decide +kernel) rfl) pa_nil))) (pe_and (pe_not (pe_callB (kisi K) (by rfl) T.n_isinstance (by decide +kernel) (pa_cons (pv 0) (pa_cons (pe_bltn (v := .ty "bool") (u := .type "bool") (by rfl) T.n_bool (by decide +kernel) rfl) pa_nil)))) (pe_one (pe_cmpR op_eq (pv 0) (pv 1) (nomark _)))))))))))
      , ?_⟩
    walk_at "r"
    refine ⟨_, _, _, _, _, rfl, .ty _, ty_of_dp hy, kit_ty (kb_tuple d), ?_⟩
    refine ⟨_, rfl, ?_⟩
    have kk := k H (Same.refl _)
    cases d with
    | none =>
      cases hx
      cases hy
      walk_at "r"
      exact kk
    | bool b =>
      cases hx
      cases hy
      walk_at "r"
      refine ⟨_, _, _, _, _, rfl, .ty _, ty_of_dp (K := K) (.bl b), kit_ty (kb_bool (.bool b)), ?_⟩
      walk_at "r"
      cases b <;> walk_at "r" <;> exact kk
    | str z =>
      cases hx
      cases hy
      walk_at "r"
      refine ⟨_, _, _, _, _, rfl, .ty _, ty_of_dp (K := K) (.str z), kit_ty (kb_bool (.str z)), ?_⟩
      walk_at "r"
      refine ⟨_, _, _, _, _, rfl, .ty _, ty_of_dp (K := K) (.str z), kit_ty (kb_str (.str z)), ?_⟩
      walk_at "r"
      refine ⟨_, _, _, _, _, rfl, .ty _, ty_of_dp (K := K) (.str z), kit_ty (kb_str (.str z)), ?_⟩
      walk_at "r"
      rw [decide_eq_true rfl]
      exact kk
    | int z =>
      cases hx
      cases hy
      walk_at "r"
      refine ⟨_, _, _, _, _, rfl, .ty _, ty_of_dp (K := K) (.int z), kit_ty (kb_bool (.int z)), ?_⟩
      walk_at "r"
      refine ⟨_, _, _, _, _, rfl, .ty _, ty_of_dp (K := K) (.int z), kit_ty (kb_str (.int z)), ?_⟩
      walk_at "r"
      refine ⟨_, _, _, _, _, rfl, .ty _, ty_of_dp (K := K) (.int z), kit_ty (kb_int (.int z)), ?_⟩
      walk_at "r"
      refine ⟨_, _, _, _, _, rfl, .ty _, ty_of_dp (K := K) (.int z), kit_ty (kb_bool (.int z)), ?_⟩
      walk_at "r"
      rw [decide_eq_true rfl]
      exact kk
    | tuple ds =>
      have hS' : (ds.all S && decide (ds.length ≤ 100)) = true := hS
      rw [Bool.and_eq_true] at hS'
      have hl := of_decide_eq_true hS'.2
      cases hx with
      | tup qx ax =>
        rename_i px xs
        cases hy with
        | tup qy ay =>
          rename_i py ys
          have lx := DpAll.len ax
          have ly := DpAll.len ay
          walk_at "r"
          refine ⟨_, _, _, _, _, rfl, .ty _, ty_of_dp (.tup qx ax), kit_ty (kb_tuple (.tuple ds)), ?_⟩
          walk_at "r"
          refine ⟨_, _, rfl, .inr qx, ?_⟩
          walk_at "r"
          refine ⟨_, _, rfl, .inr qy, ?_⟩
          walk_at "r"
          refine iteB (fun c => ?_) (fun c => ?_)
          · exfalso
            simp [lx, ly] at c
          · walk_at "r"
            refine ⟨_, _, rfl, .inr qy, ?_⟩
            walk_at "r"
            intro D hD
            refine lc_range (lo := 0) (n := ((ys.length : Nat) : Int).toNat) (fun i H' => Same H H' ∧ H' D = some (.lst [])) ⟨same_new hD, upd_same⟩ ?_ ?_
            · rintro i H' hi ⟨s1, e1⟩
              have hi2 : i < ds.length := by omega
              obtain ⟨xv, ex, dx⟩ := DpAll.get' ax (List.getElem?_eq_getElem hi2)
              obtain ⟨yv, ey, dy⟩ := DpAll.get' ay (List.getElem?_eq_getElem hi2)
              have c0 : (0 : Int) + (i : Nat) = ((i : Nat) : Int) := by omega
              refine ⟨rfl, ?_⟩
              walk_at "r"
              refine ⟨_, _, _, _, rfl, rfl, Same.sqT s1 qx, (by rw [c0]; exact atI_nat ex), ?_⟩
              walk_at "r"
              refine ⟨_, _, _, _, rfl, rfl, Same.sqT s1 qy, (by rw [c0]; exact atI_nat ey), ?_⟩
              refine ⟨_, _, _, rfl, Dp.same s1 _ _ dx, Dp.same s1 _ _ dy, List.all_eq_true.mp hS'.1 _ (List.getElem_mem hi2), fun H2 s2 => ?_⟩
              refine ⟨_, rfl, ?_⟩
              exact ⟨s1.trans s2, s2 _ _ e1⟩
            · rintro H' ⟨s1, e1⟩
              refine ⟨(by show 0 ≤ sizeLine; decide), fun p hp => ?_⟩
              refine ⟨.list [], .list [], .lst (SqL.of (same_new hp _ _ e1)) .nil, .lst (SqL.of upd_same) .nil, by decide, by decide, ?_⟩
              exact k _ (s1.trans (same_new hp))
    | _ => cases hS
end
end Z

set_option Elab.async false
set_option linter.all false
set_option maxRecDepth 100000
set_option maxHeartbeats 1200000
namespace Z
open PySem L2
local macro_rules | `(tactic| walk_at "side") => `(tactic| first | omega | (unfold CMul; omega) | (unfold CDiv; omega) | (unfold CDivN; omega) | (unfold CPow; omega) | decide)
local macro_rules | `(tactic| walk_at "lst") => `(tactic| first | exact SqL.of (by assumption) | exact SqL.of upd_same | assumption | exact upd_same)
local macro_rules | `(tactic| walk_at "r1") => `(tactic| first | refine ⟨_, rfl, ?_⟩ | refine ⟨_, _, rfl, rfl, ?_⟩ | refine Or.inl ⟨_, rfl, ?_⟩ | refine And.intro rfl ?_ | refine ⟨_, _, _, _, rfl, rfl, by walk_at "lst", rfl, ?_⟩ | refine ⟨_, _, rfl, Or.inl (by walk_at "lst"), ?_⟩ | refine And.intro (by walk_at "side") ?_)
local macro_rules | `(tactic| walk_at "r") => `(tactic| repeat walk_at "r1")
abbrev s_strict : Stmt := top 27
def spStrict (K : PySem.W.Frag) : Sp := fun vs H Q _ => ∃ (n : Nat) (a : Addr) (as : List Addr) (prs : List (Nat × Nat)), vs = [.int (n : Int), .ref a] ∧ n ≤ 24 ∧ PrsAt H a as prs ∧ prs.length ≤ 700 ∧
  ∀ p rs H', NewM H H' p n (closeM n (initM prs) n) rs → Q (.ref p) H'
def kyP (x y : Nat) : List Key := [.inl (x : Int), .inl (y : Int)]
theorem kyP_eq {x y a b : Nat} : (kyP x y = kyP a b) ↔ (x, y) = (a, b) := by
  simp [kyP]
  omega
theorem putK_le {κ : Type} [DecidableEq κ] (kvs : List (κ × V)) (k : κ) (v : V) : (putK kvs k v).length ≤ kvs.length + 1 := by
  unfold putK
  split
  · rw [List.length_map]
    omega
  · rw [List.length_append]
    exact Nat.le_refl _
section
variable {P : Program} {w : World} {K : PySem.W.Frag} {mg : Str → Option Value} {base : Heap}
theorem sc_strict : FnScope ["n", "pairs", "known", "pair", "under", "mid", "x", "y"] ["n", "pairs"] (defScope s_strict) := ⟨rfl, rfl, rfl, by decide +kernel, rfl, by decide +kernel, by decide +kernel⟩
theorem ok_strict {f : Addr} {fd : FuncData} (F : Fun K "_law_strict" "_law_strict" s_strict f fd) (T : Bl mg) : FnOk P w K mg base CX0 1 f fd ["n", "pairs"] (spStrict K) := by
  refine F.ok sc_strict (fun vs H Q E h => ?_) (fun cdv A outer s H vs Q E hr h => ?_)
  · obtain ⟨n, a, as, prs, rfl, _⟩ := h
    rfl
  · obtain ⟨n, a, as, prs, rfl, h24, hp, hl, k⟩ := h
    refine ⟨_,
      (pss_cons (ps_set (i := 2) sc_strict.nd rfl (Or.inr rfl) pe_dnewT)
      (pss_cons (ps_for PassesOwn.never rfl (kpi_seqA K (pv 1)) (pg_name (i := 3) sc_strict.nd rfl (Or.inl rfl))
        (pss_one (ps_dput (hu_of hr) (pv 2) (pv 3) pe_bl rfl)))
      (pss_cons (ps_set (i := 4) sc_strict.nd rfl (Or.inr rfl) (pe_lc (own := [("x", 6)]) (by rfl) sc_strict.nd (pi_range1 (by rfl) T.n_range (pa_cons (pv 0) pa_nil)) (blkOk_by (own := [("x", 6)]) (by show blkC ["n", "pairs", "known", "pair", "under", "mid", "x", "y"] (defScope s_strict) _ _ = true; decide +kernel)) (fun _ _ _ _ _ => (pg_name (i := 6) sc_strict.nd rfl (Or.inr rfl))) (fun _ _ _ _ _ => pts_nil) (fun _ _ _ _ _ => (pe_lc (own := [("y", 7)]) (by rfl) sc_strict.nd (pi_range1 (by rfl) T.n_range (pa_cons (pv 0) pa_nil)) (blkOk_by (own := [("y", 7)]) (by show blkC ["n", "pairs", "known", "pair", "under", "mid", "x", "y"] (relS _ ((defScope s_strict))) _ _ = true; decide +kernel)) (fun _ _ _ _ _ => (pg_name (i := 7) sc_strict.nd rfl (Or.inl rfl))) (fun _ _ _ _ _ => pts_nil) (fun _ _ _ _ _ => (pe_cmp (pc_din (hu_of hr) (pe_tup (pa_cons (pv 6) (pa_cons (pv 7) pa_nil))) (pv 2))))))))
      (pss_cons (ps_for PassesOwn.never rfl (pi_range1 (by rfl) T.n_range (pa_cons (pv 0) pa_nil)) (pg_name (i := 5) sc_strict.nd rfl (Or.inr rfl))
        (pss_one (ps_for PassesOwn.never rfl (pi_range1 (by rfl) T.n_range (pa_cons (pv 0) pa_nil)) (pg_name (i := 6) sc_strict.nd rfl (Or.inr rfl))
          (pss_one (ps_if (pt_val (pe_ix (kix_list K) (pe_ix (kix_list K) (pv 4) (pv 6) (fun _ _ => rfl)) (pv 5) (fun _ _ => rfl)))
            (pss_one (ps_asg (pe_lc (own := [("y", 7)]) (by rfl) sc_strict.nd (pi_range1 (by rfl) T.n_range (pa_cons (pv 0) pa_nil)) (blkOk_by (own := [("y", 7)]) (by show blkC ["n", "pairs", "known", "pair", "under", "mid", "x", "y"] (defScope s_strict) _ _ = true; decide +kernel)) (fun _ _ _ _ _ => (pg_name (i := 7) sc_strict.nd rfl (Or.inl rfl))) (fun _ _ _ _ _ => pts_nil) (fun _ _ _ _ _ => (pe_or (pe_ix (kix_list K) (pe_ix (kix_list K) (pv 4) (pv 6) (fun _ _ => rfl)) (pv 7) (fun _ _ => rfl)) (pe_one (pe_ix (kix_list K) (pe_ix (kix_list K) (pv 4) (pv 5) (fun _ _ => rfl)) (pv 7) (fun _ _ => rfl)))))) (pg_sub (pv 4) (pv 6) set_list)))
            pss_nil)))))
      (pss_one (ps_ret (pv 4)))))))
      , ?_⟩
    walk_at "r"
    intro kd hkd
    walk_at "r"
    refine for_seqA (H0 := H) (.inl (SqL.of hp.top)) (fun i σ H' => ∃ (v3 : Option V) (kvs : List (List Key × V)), σ = [some (.int (n : Int)), some (.ref a), some (.ref kd), v3, none, none, none, none] ∧ Same H H' ∧ H' kd = some (.dT kvs) ∧ kvs.length ≤ i ∧ ∀ x y : Nat, (valV kvs (kyP x y)).isSome = decide ((x, y) ∈ prs.take i))
      ⟨none, [], rfl, same_new hkd, upd_same, Nat.le_refl _, fun x y => by simp [valV]⟩ (fun i σ H' ⟨_, _, _, m, _⟩ => m) ?_ ?_ rfl
    · rintro i z σ H' hz ⟨v3, kvs, rfl, s1, e1, l1, q1⟩
      have hi : i < as.length := by
        have := (List.getElem?_eq_some_iff.mp hz).1
        rw [List.length_map] at this
        exact this
      have hip : i < prs.length := by
        rw [← hp.len]
        exact hi
      rw [List.getElem?_map, List.getElem?_eq_getElem hi] at hz
      cases hz
      have et : H as[i] = tpO prs[i] := by
        have e := congrArg (fun l => l[i]?) hp.its
        simp only [List.getElem?_map, List.getElem?_eq_getElem hi, List.getElem?_eq_getElem hip, Option.map_some] at e
        exact Option.some.inj e
      have et' : H' as[i] = some (.tup ((kyP prs[i].1 prs[i].2).map kV)) := s1 _ _ et
      walk_at "r"
      refine ⟨_, _, rfl, DPut.t e1 et' (small1000 (by omega)), ?_⟩
      refine ⟨_, _, rfl, same_mut s1 hkd, upd_same, Nat.le_trans (putK_le _ _ _) (by omega), fun x y => ?_⟩
      rw [valV_put, List.take_add_one, List.getElem?_eq_getElem hip]
      by_cases h : kyP x y = kyP prs[i].1 prs[i].2
      · rw [if_pos h]
        have h2 : (x, y) = prs[i] := kyP_eq.mp h
        exact (decide_eq_true (List.mem_append.mpr (.inr (by rw [h2]; simp)))).symm
      · rw [if_neg h, q1 x y]
        have h2 : ¬ (x, y) = prs[i] := fun z => h (kyP_eq.mpr z)
        exact decide_eq_decide.mpr ⟨fun m => List.mem_append.mpr (.inl m), fun m => (List.mem_append.mp m).resolve_right (by simpa using h2)⟩
    · rintro σ H' ⟨v3, kvs, rfl, s1, e1, l1, q1⟩
      have q2 : ∀ x y : Nat, (valV kvs (kyP x y)).isSome = initM prs x y := fun x y => by
        rw [q1 x y, List.length_map, hp.len, List.take_length]
        rfl
      clear q1
      walk_at "r"
      intro D hD
      refine lc_matr (n := n) (initM prs) (by omega) hD (fun _ => rfl) (fun x H1 Q1 hx s2 k1 => ?_) (fun rs H1 nm => ?_)
      · walk_at "r"
        intro D2 hD2
        refine lc_rowr (n := n) _ (by omega) hD2 (fun _ => rfl) (fun y H2 Q2 hy s3 k2 => ?_) (fun H2 s3 e2 => k1 D2 H2 s3 hD2 e2)
        walk_at "r"
        refine ⟨(by show 2 ≤ sizeLine; decide), fun p hp' => ?_⟩
        have ex : (0 : Int) + (x : Nat) = ((x : Nat) : Int) := by omega
        have ey : (0 : Int) + (y : Nat) = ((y : Nat) : Int) := by omega
        refine ⟨_, rfl, _, _, rfl, DGet.t (k := kyP x y) (same_new hp' _ _ (s3 _ _ (s2 _ _ e1))) (by rw [upd_same, ex, ey]; rfl), ?_⟩
        rw [q2 x y]
        exact k2 _ (same_new hp')
      · have nm2 : NewM H H1 D n (initM prs) rs := ⟨s1.trans nm.same, nm.mat, s1.free nm.free, fun r hr => s1.free (nm.frees r hr)⟩
        clear nm q2 e1 s1 hD l1
        walk_at "r"
        refine for_range (lo := 0) (n := n) (fun i σ H2 => ∃ (v5 v6 : Option V) (rs' : List Addr), σ = [some (.int (n : Int)), some (.ref a), some (.ref kd), v3, some (.ref D), v5, v6, none] ∧ NewM H H2 D n (closeM n (initM prs) i) rs')
          ⟨none, none, rs, rfl, nm2⟩ ?_ ?_
        · rintro mid σ H2 hmid ⟨v5, v6, rs2, rfl, m2⟩
          walk_at "r"
          refine for_range (lo := 0) (n := n) (fun i σ H3 => ∃ (v6 : Option V) (rs' : List Addr), σ = [some (.int (n : Int)), some (.ref a), some (.ref kd), v3, some (.ref D), some (.int ((0 : Int) + mid)), v6, none] ∧ NewM H H3 D n (relaxes (closeM n (initM prs) mid) mid i) rs')
            ⟨v6, rs2, rfl, m2⟩ ?_ ?_
          · rintro low σ H3 hlow ⟨v6', rs3, rfl, m3⟩
            have c0 : ∀ z : Nat, (0 : Int) + (z : Nat) = ((z : Nat) : Int) := fun z => by omega
            obtain ⟨r, hr, har, her⟩ := m3.mat.get hlow
            obtain ⟨r2, hr2, har2, her2⟩ := m3.mat.get hmid
            walk_at "r"
            rw [c0, c0]
            refine ⟨_, _, _, _, rfl, rfl, SqL.of m3.mat.top, har, _, rfl, _, _, _, _, rfl, rfl, SqL.of her, rowV_at hmid, _, rfl, ?_⟩
            refine iteB (fun c => ?_) (fun c => ?_)
            · walk_at "r"
              intro D2 hD2
              refine lc_range (lo := 0) (n := n) (fun j H4 => Same H3 H4 ∧ H4 D2 = some (.lst (rowV j fun b => relaxes (closeM n (initM prs) mid) mid low low b || relaxes (closeM n (initM prs) mid) mid low mid b)))
                ⟨same_new hD2, upd_same⟩ ?_ ?_
              · rintro j H4 hj ⟨s4, e4⟩
                refine ⟨rfl, ?_⟩
                have fin : ∀ b, b = (relaxes (closeM n (initM prs) mid) mid low low j || relaxes (closeM n (initM prs) mid) mid low mid j) →
                    ∃ acc, H4 D2 = some (.lst acc) ∧ acc.length < sizeLine ∧ Same H3 (upd H4 D2 (.lst (acc ++ [V.bl b]))) ∧ upd H4 D2 (.lst (acc ++ [V.bl b])) D2 =
                      some (.lst (rowV (j + 1) fun b => relaxes (closeM n (initM prs) mid) mid low low b || relaxes (closeM n (initM prs) mid) mid low mid b)) := fun b eb =>
                  ⟨_, e4, small1000 (by rw [rowV_len]; omega), same_mut s4 hD2, by rw [upd_same, eb]; exact congrArg (fun l => some (HO.lst l)) rowV_snoc⟩
                refine ⟨_, rfl, _, rfl, _, _, _, _, rfl, rfl, SqL.of (s4 _ _ m3.mat.top), har, _, rfl, _, _, _, _, rfl, rfl, SqL.of (s4 _ _ her), (by rw [c0]; exact rowV_at hj), _, rfl, ?_⟩
                refine iteB (fun c2 => ?_) (fun c2 => ?_)
                · exact fin true (by rw [c2]; rfl)
                · refine ⟨_, rfl, _, rfl, _, _, _, _, rfl, rfl, SqL.of (s4 _ _ m3.mat.top), har2, _, rfl, _, _, _, _, rfl, rfl, SqL.of (s4 _ _ her2), (by rw [c0]; exact rowV_at hj), ?_⟩
                  exact fin _ (by rw [c2]; rfl)
              · rintro H4 ⟨s4, e4⟩
                have m4 := m3.mat.same s4
                have nD2 : D2 ∉ rs3 := fun hm => by
                  obtain ⟨x, hx⟩ := List.getElem?_of_mem hm
                  exact ne_of_none (m3.mat.row x D2 hx) hD2 rfl
                have np : D2 ≠ D := ne_of_none' m3.mat.top hD2
                have q := m4.swap (x := low) e4 nD2 np
                walk_at "r"
                refine ⟨_, _, _, _, rfl, rfl, m4.top, ixN_nat (by rw [List.length_map, m4.len]; exact hlow), ?_⟩
                refine ⟨_, rs3.set low D2, rfl, same_mut (m3.same.trans s4) m3.free, ?_, m3.free, fun r hr => ?_⟩
                · have er : relaxes (closeM n (initM prs) mid) mid (low + 1) = (fun a => if a = low then (fun b => relaxes (closeM n (initM prs) mid) mid low low b || relaxes (closeM n (initM prs) mid) mid low mid b) else relaxes (closeM n (initM prs) mid) mid low a) := by
                    show relax _ mid low = _
                    unfold relax
                    rw [if_pos c]
                  rw [er]
                  exact q
                · rcases List.mem_or_eq_of_mem_set hr with h | h
                  · exact m3.frees r h
                  · rw [h]
                    exact m3.same.free hD2
            · have er : relaxes (closeM n (initM prs) mid) mid (low + 1) = relaxes (closeM n (initM prs) mid) mid low := by
                show relax _ mid low = _
                unfold relax
                rw [if_neg (by rw [c]; exact Bool.false_ne_true)]
              refine ⟨_, rs3, rfl, ?_⟩
              rw [er]
              exact m3
          · rintro σ H3 ⟨v6', rs3, rfl, m3⟩
            exact ⟨_, _, rs3, rfl, m3⟩
        · rintro σ H2 ⟨v5, v6, rs2, rfl, m2⟩
          walk_at "r"
          exact k D rs2 H2 m2
end
end Z

set_option Elab.async false
set_option linter.all false
set_option maxRecDepth 100000
set_option maxHeartbeats 1200000
namespace Z
open PySem L2
local macro_rules | `(tactic| walk_at "side") => `(tactic| first | omega | (unfold CMul; omega) | (unfold CDiv; omega) | (unfold CDivN; omega) | (unfold CPow; omega) | decide)
local macro_rules | `(tactic| walk_at "lst") => `(tactic| first | exact SqL.of (by assumption) | exact SqL.of upd_same | assumption | exact upd_same)
local macro_rules | `(tactic| walk_at "r1") => `(tactic| first | refine ⟨_, rfl, ?_⟩ | refine ⟨_, _, rfl, rfl, ?_⟩ | refine Or.inl ⟨_, rfl, ?_⟩ | refine And.intro rfl ?_ | refine ⟨_, _, _, _, rfl, rfl, by walk_at "lst", rfl, ?_⟩ | refine ⟨_, _, rfl, Or.inl (by walk_at "lst"), ?_⟩ | refine And.intro (by walk_at "side") ?_)
local macro_rules | `(tactic| walk_at "r") => `(tactic| repeat walk_at "r1")
abbrev s_due : Stmt := top 29
def dueD : Option (Str × Int) → PyData
  | none => .none
  | some (s, i) => .tuple [.str s, .int i]
/-- a tuple of two numbers stands as a tuple of its own -/
def TkP (H : Hp) (v : V) (d : PyData) : Prop := ∀ a b : Int, d = .tuple [.int a, .int b] → ∃ p, v = .ref p ∧ H p = some (.tup [.int a, .int b])
structure PL (K : PySem.W.Frag) (H : Hp) (q : Addr) (ds : List PyData) : Prop where
  ex : ∃ ys, H q = some (.lst ys) ∧ DpAll K H ys ds ∧ ∀ (i : Nat) v d, ys[i]? = some v → ds[i]? = some d → TkP H v d
theorem TkP.same {H H' : Hp} {v : V} {d : PyData} (s : Same H H') (t : TkP H v d) : TkP H' v d := fun a b e => by
  obtain ⟨p, e1, e2⟩ := t a b e
  exact ⟨p, e1, s _ _ e2⟩
theorem PL.same {K : PySem.W.Frag} {H H' : Hp} {q : Addr} {ds : List PyData} (p : PL K H q ds) (s : Same H H') : PL K H' q ds := by
  obtain ⟨ys, e, a, t⟩ := p.ex
  exact ⟨ys, s _ _ e, DpAll.same s _ _ a, fun i v d h1 h2 => (t i v d h1 h2).same s⟩
def spDue (K : PySem.W.Frag) : Sp := fun vs H Q _ => ∃ (x y : V) (n p : PyData), vs = [x, y] ∧ Dp K H x n ∧ ((∃ q ds, y = .ref q ∧ p = .list ds ∧ PL K H q ds) ∨ (AnyD K H y p ∧ isSeq p = false)) ∧
  ∀ r H', Same H H' → Dp K H' r (dueD (ordFault n p)) → Q r H'
section
variable {P : Program} {w : World} {K : PySem.W.Frag} {mg : Str → Option Value} {base : Heap}
theorem notT {b : Bool} (h : (!b) = true) : b = false := by cases b <;> first | rfl | cases h
theorem notF {b : Bool} (h : (!b) = false) : b = true := by cases b <;> first | rfl | cases h
theorem of_parts {n p : PyData} {x : Str × Int} (h : partsFault n p = some x) : ordFault n p = some x := by
  unfold ordFault
  rw [h]
  rfl
theorem sc_due : FnScope ["n", "pairs", "at", "under", "x", "pair"] ["n", "pairs"] (defScope s_due) := ⟨rfl, rfl, rfl, by decide +kernel, rfl, by decide +kernel, by decide +kernel⟩
theorem ok_due {f : Addr} {fd : FuncData} (F : Fun K "_law_due" "_law_due" s_due f fd) (T : Bl mg) (c_law_state : Cal P w K mg base CX0 "_law_state" 1 (spState K)) (c_law_strict : Cal P w K mg base CX0 "_law_strict" 1 (spStrict K)) : FnOk P w K mg base CX0 2 f fd ["n", "pairs"] (spDue K) := by
  refine F.ok sc_due (fun vs H Q E h => ?_) (fun cdv A outer s H vs Q E hr h => ?_)
  · obtain ⟨x, y, n, p, rfl, _⟩ := h
    rfl
  · obtain ⟨x, y, n, p, rfl, hn, hp, k⟩ := h
    have ret2 : ∀ (H1 : Hp) (what : Str) (i : Int), Same H H1 → ordFault n p = some (what, i) → ∀ l, H1 l = none → Q (.ref l) (upd H1 l (.tup [.str what, .int i])) := fun H1 what i s1 e l hl =>
      k _ _ (s1.trans (same_new hl)) (by rw [e]; exact .tup (SqT.of upd_same) (.cons (.str _) (.cons (.int _) .nil)))
    have hp' : AnyD K H y p := by
      rcases hp with ⟨q, ds, rfl, rfl, pl⟩ | ⟨h, _⟩
      · obtain ⟨ys, e, a, _⟩ := pl.ex
        exact .dp (.lst (SqL.of e) a)
      · exact h
    refine ⟨_,
      (pss_cons (ps_if (PW.pt (pw_or (pt_not (pt_val (pe_cal c_law_state (hr.mono (by decide)) (by rfl) (pa_cons pe_int (pa_cons (pv 0) pa_nil))))) (pw_or1 (pt_cmpR op_eq (pv 0) pe_int (nomark _)))))
        (pss_one (ps_ret (pe_tup (pa_cons pe_str (pa_cons pe_int pa_nil)))))
        pss_nil)
      (pss_cons (ps_if (PW.pt (pw_or (pt_not (pt_val (pe_callB (kisiT K) (by rfl) T.n_isinstance (by decide +kernel) (pa_cons (pv 1) (pa_cons (pe_tup (pa_cons (pe_bltn (v := .ty "list") (u := .type "list") (by rfl) T.n_list (by decide +kernel) rfl) (pa_cons (pe_bltn (v := .ty "tuple") (u := .type "tuple") (by rfl) T.n_tuple (by decide +kernel) rfl) pa_nil))) pa_nil))))) (pw_or1 (pt_cmpR op_gt (pe_callB (klen K) (by rfl) T.n_len PySem.boot_len (pa_cons (pv 1) pa_nil)) pe_int (nomark _)))))
        (pss_one (ps_ret (pe_tup (pa_cons pe_str (pa_cons pe_int pa_nil)))))
        pss_nil)
      (pss_cons (ps_for PassesOwn.never rfl (pi_range1 (by rfl) T.n_range (pa_cons (pe_callB (klen K) (by rfl) T.n_len PySem.boot_len (pa_cons (pv 1) pa_nil)) pa_nil)) (pg_name (i := 2) sc_due.nd rfl (Or.inl rfl))
        (pss_cons (ps_if (PW.pt (pw_or (pt_not (pt_val (pe_callB (kisiT K) (by rfl) T.n_isinstance (by decide +kernel) (pa_cons (pe_ix (kix_seq K) (pv 1) (pv 2) (fun _ _ => rfl)) (pa_cons (pe_tup (pa_cons (pe_bltn (v := .ty "list") (u := .type "list") (by rfl) T.n_list (by decide +kernel) rfl) (pa_cons (pe_bltn (v := .ty "tuple") (u := .type "tuple") (by rfl) T.n_tuple (by decide +kernel) rfl) pa_nil))) pa_nil))))) (pw_or1 (pt_cmpR op_ne (pe_callB (klen K) (by rfl) T.n_len PySem.boot_len (pa_cons (pe_ix (kix_seq K) (pv 1) (pv 2) (fun _ _ => rfl)) pa_nil)) pe_int (nomark _)))))
          (pss_one (ps_ret (pe_tup (pa_cons pe_str (pa_cons (pv 2) pa_nil)))))
          pss_nil)
        (pss_one (ps_if (PW.pt (pw_or (pt_not (pt_val (pe_cal c_law_state (hr.mono (by decide)) (by rfl) (pa_cons (pv 0) (pa_cons (pe_ix (kix_seq K) (pe_ix (kix_seq K) (pv 1) (pv 2) (fun _ _ => rfl)) pe_int (fun _ _ => rfl)) pa_nil))))) (pw_or1 (pt_not (pt_val (pe_cal c_law_state (hr.mono (by decide)) (by rfl) (pa_cons (pv 0) (pa_cons (pe_ix (kix_seq K) (pe_ix (kix_seq K) (pv 1) (pv 2) (fun _ _ => rfl)) pe_int (fun _ _ => rfl)) pa_nil))))))))
          (pss_one (ps_ret (pe_tup (pa_cons pe_str (pa_cons (pv 2) pa_nil)))))
          pss_nil))))
      (pss_cons (ps_set (i := 3) sc_due.nd rfl (Or.inl rfl) (pe_cal c_law_strict (hr.mono (by decide)) (by rfl) (pa_cons (pv 0) (pa_cons (pe_lc (own := [("pair", 5)]) (by rfl) sc_due.nd (kpi_list K (pv 1)) (blkOk_by (own := [("pair", 5)]) (by show blkC ["n", "pairs", "at", "under", "x", "pair"] (defScope s_due) _ _ = true; decide +kernel)) (fun _ _ _ _ _ => (pg_name (i := 5) sc_due.nd rfl (Or.inl rfl))) (fun _ _ _ _ _ => pts_nil) (fun _ _ _ _ _ => (pe_callTy (ktuple_of K) (by rfl) T.n_tuple (by decide +kernel) (pa_cons (pv 5) pa_nil)))) pa_nil))))
      (pss_cons (ps_for PassesOwn.never rfl (pi_range1 (by rfl) T.n_range (pa_cons (pv 0) pa_nil)) (pg_name (i := 4) sc_due.nd rfl (Or.inl rfl))
        (pss_one (ps_if (pt_val (pe_ix (kix_seq K) (pe_ix (kix_seq K) (pv 3) (pv 4) (fun _ _ => rfl)) (pv 4) (fun _ _ => rfl)))
          (pss_one (ps_ret (pe_tup (pa_cons pe_str (pa_cons (pv 4) pa_nil)))))
          pss_nil)))
      (pss_cons (ps_for PassesOwn.never rfl (pi_range2 (by rfl) T.n_range (pa_cons pe_int (pa_cons (pv 0) pa_nil))) (pg_name (i := 4) sc_due.nd rfl (Or.inl rfl))
        (pss_one (ps_if (pt_not (pt_val (pe_ix (kix_seq K) (pe_ix (kix_seq K) (pv 3) pe_int (fun _ _ => rfl)) (pv 4) (fun _ _ => rfl))))
          (pss_one (ps_ret (pe_tup (pa_cons pe_str (pa_cons (pv 4) pa_nil)))))
          pss_nil)))
      (pss_one (ps_ret pe_non))))))))
      , ?_⟩
    walk_at "r"
    refine ⟨25, _, _, rfl, hn, _, rfl, ?_⟩
    refine iteB (fun c1 => ?_) (fun c1 => ?_)
    · refine iteT ?_
      walk_at "r"
      refine ret2 H _ _ (Same.refl _) (of_parts ?_)
      have e : whole n (some 1) (some 24) = false := by
        cases n with
        | int m =>
          have c2 : (decide ((0 : Int) ≤ m) && decide (m ≤ 25 - 1)) = false := notT c1
          show (decide ((1 : Int) ≤ m) && decide (m ≤ 24)) = false
          rw [Bool.and_eq_false_iff] at c2 ⊢
          simp only [decide_eq_false_iff_not] at c2 ⊢
          omega
        | _ => rfl
      unfold partsFault
      rw [e]
      rfl
    · have w1 : whole n (some 0) (some (25 - 1)) = true := notF c1
      obtain ⟨m, rfl⟩ : ∃ m, n = .int m := by
        cases n with
        | int m => exact ⟨m, rfl⟩
        | _ => cases w1
      cases hn
      have w2 : 0 ≤ m ∧ m ≤ 24 := by
        have z : (decide ((0 : Int) ≤ m) && decide (m ≤ 25 - 1)) = true := w1
        simp only [Bool.and_eq_true, decide_eq_true_eq] at z
        omega
      walk_at "r"
      refine iteB (fun c2 => ?_) (fun c2 => ?_)
      · walk_at "r"
        refine ret2 H _ _ (Same.refl _) (of_parts ?_)
        have e0 := dec_i_t c2
        subst e0
        rfl
      · have e0 := dec_i_f c2
        walk_at "r"
        intro t1 ht1
        have s1 := same_new (o := .tup [V.ty "list", V.ty "tuple"]) ht1
        have w3 : whole (.int m) (some 1) (some 24) = true := by
          show (decide ((1 : Int) ≤ m) && decide (m ≤ 24)) = true
          rw [Bool.and_eq_true, decide_eq_true_eq, decide_eq_true_eq]
          omega
        refine ⟨_, _, _, _, _, _, rfl, upd_same, .cons (.ty _) (.cons (.ty _) .nil), ty_of_any (hp'.same s1), ka_seq (kb_list p) (kb_tuple p), ?_⟩
        refine ⟨_, rfl, ?_⟩
        refine iteB (fun c3 => ?_) (fun c3 => ?_)
        · refine iteT ?_
          walk_at "r"
          refine ret2 _ _ _ s1 (of_parts ?_)
          unfold partsFault
          rw [if_pos w3, seq_not (notT c3)]
        · have hsq : isSeq p = true := notF c3
          obtain ⟨q, ds, rfl, rfl, pl⟩ : ∃ q ds, y = .ref q ∧ p = .list ds ∧ PL K H q ds := by
            rcases hp with h | ⟨_, h⟩
            · exact h
            · rw [h] at hsq
              cases hsq
          clear hp hp' c3
          generalize upd H t1 (.tup [V.ty "list", V.ty "tuple"]) = H1 at s1 ⊢
          obtain ⟨ys, eq, da, tk⟩ := (pl.same s1).ex
          have hlen := DpAll.len da
          walk_at "r"
          refine iteB (fun c4 => ?_) (fun c4 => ?_)
          · walk_at "r"
            refine ret2 _ _ _ s1 (of_parts ?_)
            have z := of_decide_eq_true c4
            unfold partsFault
            rw [if_pos w3]
            show (if ds.length ≤ 600 then _ else _) = _
            rw [if_neg (by omega)]
          · have hds : ds.length ≤ 600 := by
              have z := of_decide_eq_false c4
              omega
            have hF : partsFault (.int m) (.list ds) = pairF (pairFault (m - 1) ds 0) := by
              unfold partsFault
              rw [if_pos w3]
              show (if ds.length ≤ 600 then _ else _) = _
              rw [if_pos hds]
            walk_at "r"
            refine for_range (lo := 0) (n := ((ys.length : Nat) : Int).toNat) (fun i σ H' => ∃ v : Option V, σ = [some (.int m), some (.ref q), v, none, none, none] ∧ Same H1 H' ∧ i ≤ ds.length ∧ pairFault (m - 1) (ds.drop i) i = pairFault (m - 1) ds 0)
              ⟨none, rfl, Same.refl _, Nat.zero_le _, rfl⟩ ?_ ?_
            · rintro i σ H' hi ⟨v, rfl, s2, hi2, e⟩
              have hil : i < ds.length := by omega
              obtain ⟨zv, ez, dz⟩ := DpAll.get' da (List.getElem?_eq_getElem hil)
              have c0 : (0 : Int) + (i : Nat) = ((i : Nat) : Int) := by omega
              have az : atI ys ((0 : Int) + (i : Nat)) = some zv := by
                rw [c0]
                exact atI_nat ez
              have eqz : ∀ H2, Same H' H2 → SqL K H2 q ys := fun H2 s => SqL.of (s _ _ (s2 _ _ eq))
              have ed : ds.drop i = ds[i] :: ds.drop (i + 1) := List.drop_eq_getElem_cons hil
              have bad : couple ds[i] (m - 1) = false → ordFault (.int m) (.list ds) = some (("pair" : Str), (0 : Int) + (i : Nat)) := fun c => by
                refine of_parts ?_
                rw [hF, ← e, ed, c0]
                unfold pairFault
                rw [c]
                rfl
              have good : couple ds[i] (m - 1) = true → pairFault (m - 1) (ds.drop (i + 1)) (i + 1) = pairFault (m - 1) ds 0 := fun c => by
                rw [← e, ed]
                conv => rhs; unfold pairFault
                rw [c]
                rfl
              walk_at "r"
              refine .inl ⟨_, _, _, _, rfl, rfl, eqz _ (Same.refl _), az, ?_⟩
              walk_at "r"
              intro t ht
              have s3 := same_new (o := .tup [V.ty "list", V.ty "tuple"]) ht
              have dz3 := Dp.same (s2.trans s3) _ _ dz
              refine ⟨_, _, _, _, _, _, rfl, upd_same, .cons (.ty _) (.cons (.ty _) .nil), ty_of_dp dz3, ka_seq (kb_list ds[i]) (kb_tuple ds[i]), ?_⟩
              generalize upd H' t (.tup [V.ty "list", V.ty "tuple"]) = H3 at s3 dz3 ⊢
              refine ⟨_, rfl, ?_⟩
              refine iteB (fun c5 => ?_) (fun c5 => ?_)
              · refine iteT ?_
                walk_at "r"
                refine ⟨(by show 2 ≤ sizeLine; decide), ret2 _ _ _ (s1.trans (s2.trans s3)) (bad (couple_no (notT c5)))⟩
              · obtain ⟨p2, zs, es, rfl, hq2, ha2, hs2⟩ := seq_dp dz3 (notF c5)
                have hlz := DpAll.len ha2
                walk_at "r"
                refine .inl ⟨_, _, _, _, rfl, rfl, eqz _ s3, az, ?_⟩
                refine ⟨_, _, rfl, hq2, ?_⟩
                walk_at "r"
                refine iteB (fun c6 => ?_) (fun c6 => ?_)
                · walk_at "r"
                  refine ⟨(by show 2 ≤ sizeLine; decide), ret2 _ _ _ (s1.trans (s2.trans s3)) (bad (couple_len hs2 fun z => ?_))⟩
                  have c7 := dec_i_f (notT c6)
                  omega
                · have c7 := dec_i_t (notF c6)
                  have l2 : es.length = 2 := by omega
                  obtain ⟨d0, d1, rfl⟩ := two_of l2
                  obtain ⟨y0, y1, rfl⟩ := two_of hlz
                  cases ha2 with
                  | cons a0 r0 =>
                    cases r0 with
                    | cons a1 r1 =>
                      have e2 := couple_two (hi := m - 1) hs2
                      walk_at "r"
                      refine .inl ⟨_, _, _, _, rfl, rfl, eqz _ s3, az, ?_⟩
                      walk_at "r"
                      have rd : ∀ (jx : Int) (z : V) (Qx : VK), atI [y0, y1] jx = some z → Qx z H3 → rIx K (.ref p2) (.int jx) H3 Qx := fun jx z Qx e q => by
                        rcases hq2 with h | h
                        · exact .inl ⟨_, _, _, _, rfl, rfl, h, e, q⟩
                        · exact .inr (.inl ⟨_, _, _, _, rfl, rfl, h, e, q⟩)
                      refine rd 0 y0 _ rfl ?_
                      refine ⟨m, _, _, rfl, a0, _, rfl, ?_⟩
                      refine iteB (fun c8 => ?_) (fun c8 => ?_)
                      · refine iteT ?_
                        walk_at "r"
                        refine ⟨(by show 2 ≤ sizeLine; decide), ret2 _ _ _ (s1.trans (s2.trans s3)) (bad ?_)⟩
                        rw [e2, notT c8]
                        rfl
                      · walk_at "r"
                        refine .inl ⟨_, _, _, _, rfl, rfl, eqz _ s3, az, ?_⟩
                        walk_at "r"
                        refine rd 1 y1 _ rfl ?_
                        refine ⟨m, _, _, rfl, a1, _, rfl, ?_⟩
                        refine iteB (fun c9 => ?_) (fun c9 => ?_)
                        · walk_at "r"
                          refine ⟨(by show 2 ≤ sizeLine; decide), ret2 _ _ _ (s1.trans (s2.trans s3)) (bad ?_)⟩
                          rw [e2, notT c9, Bool.and_false]
                        · refine ⟨_, rfl, s2.trans s3, by omega, good ?_⟩
                          rw [e2, notF c8, notF c9]
                          rfl
            · rintro σ H' ⟨v, rfl, s2, hi2, e⟩
              have hz : ds.drop ((ys.length : Nat) : Int).toNat = [] := by
                have e3 : ((ys.length : Nat) : Int).toNat = ds.length := by omega
                rw [e3]
                exact List.drop_length
              rw [hz] at e
              have ok : pairFault (m - 1) ds 0 = none := e.symm
              have hcp := pf_all ok
              clear e hz
              walk_at "r"
              refine ⟨⟨_, SqL.of (s2 _ _ eq)⟩, fun D hD => lc_list (K := K) (a := q) (xs := ys) (fun j H2 => ∃ as, Same H' H2 ∧ PrsAt H2 D as ((ds.map prOf).take j)) ⟨[], same_new hD, upd_same, rfl⟩ (fun j H2 _ hh => by
                obtain ⟨as, s3, _⟩ := hh
                exact SqL.of (s3 _ _ (s2 _ _ eq))) ?_ ?_⟩
              · rintro j zv H2 hx ⟨as, s3, pa⟩
                obtain ⟨d, hd, dz⟩ := DpAll.get da hx
                have hjl : j < ds.length := (List.getElem?_eq_some_iff.mp hd).1
                obtain ⟨xa, ya, e1, e2, hxa, hya⟩ := couple_ok (hcp d (List.mem_of_getElem? hd))
                have hlen2 : ((ds.map prOf).take j).length = j := by
                  rw [List.length_take, List.length_map]
                  omega
                have enext : (ds.map prOf).take (j + 1) = (ds.map prOf).take j ++ [(xa, ya)] := by
                  rw [List.take_add_one, List.getElem?_map, hd]
                  show _ ++ [prOf d] = _
                  rw [e2]
                have fin : ∀ l H3, Same H2 H3 → H3 l = tpO (xa, ya) → ∃ acc, H3 D = some (.lst acc) ∧ acc.length < sizeLine ∧ ∃ as, Same H' (upd H3 D (.lst (acc ++ [.ref l]))) ∧ PrsAt (upd H3 D (.lst (acc ++ [.ref l]))) D as ((ds.map prOf).take (j + 1)) := fun l H3 s4 el => by
                  have pa3 := pa.same s4
                  refine ⟨_, pa3.top, small1000 (by rw [List.length_map, pa3.len, hlen2]; omega), as ++ [l], same_mut (s3.trans s4) hD, ?_⟩
                  rw [enext]
                  exact pa3.push el
                refine ⟨rfl, ?_⟩
                walk_at "r"
                have dz2 := Dp.same (s2.trans s3) _ _ dz
                cases d with
                | list es =>
                  cases e1
                  cases dz2 with
                  | lst hq2 ha2 =>
                    cases ha2 with
                    | cons a0 r0 =>
                      cases r0 with
                      | cons a1 r1 =>
                        cases r1
                        cases a0
                        cases a1
                        exact ⟨_, _, rfl, .inl ⟨hq2, fun l hl => fin l _ (same_new hl) upd_same⟩⟩
                | tuple es =>
                  cases e1
                  obtain ⟨p2, ep, et⟩ := tk j _ _ hx hd _ _ rfl
                  subst ep
                  have et2 := s3 _ _ (s2 _ _ et)
                  exact ⟨_, _, rfl, .inr ⟨SqT.of et2, fin p2 H2 (Same.refl _) et2⟩⟩
                | _ => cases e1
              · rintro H2 ⟨as, s3, pa⟩
                have e4 : (ds.map prOf).take ys.length = ds.map prOf := by
                  rw [hlen, List.take_of_length_le (by rw [List.length_map]; exact Nat.le_refl _)]
                rw [e4] at pa
                have s4 : Same H H2 := s1.trans (s2.trans s3)
                obtain ⟨M0, hM0⟩ : ∃ M0 : Nat, m = (M0 : Int) := ⟨m.toNat, by omega⟩
                subst hM0
                have eF : ordFault (.int (M0 : Int)) (.list ds) = closedFault M0 (closeM M0 (initM (ds.map prOf)) M0) := by
                  unfold ordFault
                  rw [hF, ok]
                  rfl
                clear ok hcp eq e4
                refine ⟨M0, D, as, _, rfl, by omega, pa, by rw [List.length_map]; omega, fun p rs H3 nm => ?_⟩
                have s5 := s4.trans nm.same
                have m := nm.mat
                generalize closeM M0 (initM (ds.map prOf)) M0 = M at eF m
                rw [eF] at k ret2
                clear nm
                walk_at "r"
                have n1 : 1 ≤ M0 := by omega
                have c0 : ∀ z : Nat, (0 : Int) + (z : Nat) = ((z : Nat) : Int) := fun z => by omega
                refine for_range (lo := 0) (n := M0) (fun i σ H' => ∃ v4 : Option V, σ = [some (.int (M0 : Int)), some (.ref q), v, some (.ref p), v4, none] ∧ H3 = H' ∧ i ≤ M0 ∧ findN (fun x => M x x) i (M0 - i) = findN (fun x => M x x) 0 M0) ⟨none, rfl, rfl, Nat.zero_le _, rfl⟩ ?_ ?_
                · rintro i σ H' hi ⟨v4, rfl, rfl, hin, e⟩
                  obtain ⟨r, hr1, har, her⟩ := m.get hi
                  have ek : M0 - i = (M0 - (i + 1)) + 1 := by omega
                  walk_at "r"
                  rw [c0]
                  refine .inl ⟨_, _, _, _, rfl, rfl, SqL.of m.top, har, ?_⟩
                  walk_at "r"
                  refine .inl ⟨_, _, _, _, rfl, rfl, SqL.of her, rowV_at hi, _, rfl, ?_⟩
                  refine iteB (fun c => ?_) (fun c => ?_)
                  · walk_at "r"
                    refine ⟨(by show 2 ≤ sizeLine; decide), ret2 _ _ _ s5 ?_⟩
                    refine cf_ring ?_
                    rw [← e, ek]
                    exact findN_hit (p := fun x => M x x) c
                  · refine ⟨_, rfl, rfl, hi, ?_⟩
                    rw [← e, ek]
                    exact (findN_step (p := fun x => M x x) c).symm
                · rintro σ H' ⟨v4, rfl, rfl, hin, e⟩
                  have e0 : findN (fun x => M x x) 0 M0 = none := by
                    rw [← e, Nat.sub_self]
                    rfl
                  walk_at "r"
                  have en : ((M0 : Int) - 1).toNat = M0 - 1 := by omega
                  have h0n : 0 < M0 := by omega
                  obtain ⟨r0, hr0, har0, her0⟩ := m.get h0n
                  have c1 : ∀ z : Nat, (1 : Int) + (z : Nat) = ((1 + z : Nat) : Int) := fun z => by omega
                  refine ⟨_, _, rfl, ⟨by omega, by omega, by omega, by omega⟩, ?_⟩
                  rw [en]
                  refine for_range (lo := 1) (n := M0 - 1) (fun i σ H' => ∃ v4 : Option V, σ = [some (.int (M0 : Int)), some (.ref q), v, some (.ref p), v4, none] ∧ H3 = H' ∧ i ≤ M0 - 1 ∧ findN (fun x => !M 0 x) (1 + i) (M0 - 1 - i) = findN (fun x => !M 0 x) 1 (M0 - 1)) ⟨v4, rfl, rfl, Nat.zero_le _, rfl⟩ ?_ ?_
                  · rintro i σ H' hi ⟨v4, rfl, rfl, hin2, e2⟩
                    have ek : M0 - 1 - i = (M0 - 1 - (i + 1)) + 1 := by omega
                    walk_at "r"
                    refine .inl ⟨_, _, _, _, rfl, rfl, SqL.of m.top, har0, ?_⟩
                    walk_at "r"
                    rw [c1]
                    refine .inl ⟨_, _, _, _, rfl, rfl, SqL.of her0, rowV_at (show 1 + i < M0 by omega), _, rfl, ?_⟩
                    refine iteB (fun c => ?_) (fun c => ?_)
                    · walk_at "r"
                      refine ⟨(by show 2 ≤ sizeLine; decide), ret2 _ _ _ s5 ?_⟩
                      refine cf_least e0 ?_
                      rw [← e2, ek]
                      exact findN_hit (p := fun x => !M 0 x) c
                    · refine ⟨_, rfl, rfl, by omega, ?_⟩
                      rw [← e2, ek]
                      exact (findN_step (p := fun x => !M 0 x) c).symm
                  · rintro σ H' ⟨v4, rfl, rfl, hin2, e2⟩
                    walk_at "r"
                    refine k _ _ s5 ?_
                    rw [cf_none e0 (by rw [← e2, Nat.sub_self]; rfl)]
                    exact .non
end
end Z

set_option Elab.async false
set_option linter.all false
set_option maxRecDepth 100000
set_option maxHeartbeats 1200000
namespace Z
open PySem L2
local macro_rules | `(tactic| walk_at "side") => `(tactic| first | omega | (unfold CMul; omega) | (unfold CDiv; omega) | (unfold CDivN; omega) | (unfold CPow; omega) | decide)
local macro_rules | `(tactic| walk_at "lst") => `(tactic| first | exact SqL.of (by assumption) | exact SqL.of upd_same | assumption | exact upd_same)
local macro_rules | `(tactic| walk_at "r1") => `(tactic| first | refine ⟨_, rfl, ?_⟩ | refine ⟨_, _, rfl, rfl, ?_⟩ | refine Or.inl ⟨_, rfl, ?_⟩ | refine And.intro rfl ?_ | refine ⟨_, _, _, _, rfl, rfl, by walk_at "lst", rfl, ?_⟩ | refine ⟨_, _, rfl, Or.inl (by walk_at "lst"), ?_⟩ | refine And.intro (by walk_at "side") ?_)
local macro_rules | `(tactic| walk_at "r") => `(tactic| repeat walk_at "r1")
abbrev s_told : Stmt := top 30
/-! ### a new object made where an error may come, within a try -/
section
variable {X : Cx} {CX : CXT} {k : Nat} {f C : Addr} {fd : FuncData} {ps : List Str} {sp : Sp} {Eo : St → XK} {nm : Str} {p pos : Pos} {e : Expr} {es : List Expr} {t : TA}
theorem made_at {pins : List (Addr × Obj)} {σ : St} {H : Hp} {s : Shared} {Q : VK} {us : List Value} {vs : List V} (mk : Mk X.K C f) (fok : FnOk X.prog X.w X.K X.mg X.base CX k f fd ps sp) (room : Room (k + 1) X.A) (bnd : Binds X.K fd ps [])
    (out : PassesAt CX X σ (Eo σ)) (inv : Inv X pins σ H s) (vl : Vals vs us)
    (hh : ∀ o dx, H o = none → H dx = none → dx ≠ o → sp (.ref o :: vs) (upd (upd H dx (.own o)) o (.ins C dx [])) (fun v H2 => v = .non ∧ Q (.ref o) H2) (Eo σ)) :
    wpAny (model X.prog X.w) X.A (call (.ref C) us) (EP X pins σ Q) X.xe s := by
  have want := hh (s.heap.objs.size + 1) s.heap.objs.size (inv.hok.fresh (by omega)) (inv.hok.fresh (by omega)) (Nat.ne_of_lt (Nat.lt_succ_self _))
  have inv2 := Inv.made (C := C) inv
  have vl2 : Vals (V.ref (s.heap.objs.size + 1) :: vs) (Value.ref (s.heap.objs.size + 1) :: us) := .cons rfl vl
  have long : (Value.ref (s.heap.objs.size + 1) :: us).length = ps.length := by
    rw [← vl2.length]
    exact fok.len _ _ _ _ want
  have bs := bnd _ (Value.ref (s.heap.objs.size + 1) :: us) inv2.kIn (by rw [List.append_nil]; exact long)
  rw [List.append_nil] at bs
  have step := fok.run _ X.stack _ _ ⟨Value.ref (s.heap.objs.size + 1) :: us, []⟩ (Value.ref (s.heap.objs.size + 1) :: us) (V.ref (s.heap.objs.size + 1) :: vs) _ (Eo σ) (room.make C us []) (inv2.env0.make C us []) bs vl2 want
  refine wpAny_call (make_map (f := f) inv.kIn mk.makes mk.init (beq_iff_eq.mp mk.fn) (codeAny_mono step fun res s2 got => ?_))
  match res, got with
  | .error er, got => exact out pins _ _ er s2 inv2 got
  | .ok (.ret u), got =>
    obtain ⟨v, H3, inv3, rv, ev, q3⟩ := inv2.after got
    subst ev
    exact ⟨rv, ⟨V.ref (s.heap.objs.size + 1), H3, inv3, rfl, q3⟩⟩
  | .ok .next, got => exact False.elim got
  | .ok .brk, got => exact False.elim got
  | .ok .cont, got => exact False.elim got
def tMakeS (C : Addr) (sp : Sp) (Eo : St → XK) (t : TA) : TE := fun σ H Q => t σ H fun vs H1 => ∀ o dx, H1 o = none → H1 dx = none → dx ≠ o → sp (.ref o :: vs) (upd (upd H1 dx (.own o)) o (.ins C dx [])) (fun v H2 => v = .non ∧ Q (.ref o) H2) (Eo σ)
theorem pe_makeS (mk : Mk X.K C f) (fok : FnOk X.prog X.w X.K X.mg X.base CX k f fd ps sp) (room : Room (k + 1) X.A) (gl : Gl X nm) (gm : X.mg nm = some (.ref C)) (bnd : Binds X.K fd ps []) (out : ∀ σ, PassesAt CX X σ (Eo σ)) (pa : PA X (e :: es) t)
    (dbg : (nm == ("__debug__" : Str)) = false := by decide) (h1 : starEach (e :: es) X.env = (false, eval e X.env) :: starEach es X.env := by rfl) (h2 : (backTo pos (starEach es X.env)).any (·.1) = false := by rfl) :
    PE X (.Call (.Name nm p) (e :: es) [] pos) (tMakeS C sp Eo t) := by
  refine ⟨fun pins s σ H Q inv want => wpAny_Call_Name_kw (ld_glob inv gl gm (PySem.W.callWith_K (h₀ := X.base) inv.ok.mod.kin mk.kp (thn (pa.run pos pins s σ H _ inv want) fun us s1 hh => ?_) h1 h2) dbg)⟩
  obtain ⟨vs, H1, inv1, vl, q⟩ := hh
  exact ⟨inv1.kIn, made_at mk fok room bnd (out σ) inv1 vl q⟩
end
/-! ### isinstance of a caught error that has fields -/
structure ToldC (K : PySem.W.Frag) (mg : Str → Option Value) (C FE BM BD : Addr) : Prop where
  hcl : (PySem.W.clsIn K C).isSome = true
  hgt : PySem.W.findIn K (.ref C) "__getattr__" = some none
  ha : PySem.W.findIn K (.ref C) "__class__" = some (some (.builtin "object.__class__"))
  hn : PySem.W.specialIn K (.builtin "object.__class__") "__get__" = some (some (.builtin "getset_descriptor.__get__"))
  ht : PySem.W.takesIn K (.builtin "object.__class__") = some true
  hm : PySem.W.mroIn K C (.type "object") = some true
  xf : XfC K C
  ex : PySem.W.exmOne K (.ref C) (.ref C) = some true
  gFrameError : mg "FrameError" = some (.ref FE)
  gBadMake : mg "BadMake" = some (.ref BM)
  gBadData : mg "BadData" = some (.ref BD)
  n_ValueError : mg "ValueError" = none
  k1 : PySem.W.kitOne K (.ref C) (.ref FE) = some true
  k2 : PySem.W.kitOne K (.ref C) (.type "ValueError") = some true
  k3 : PySem.W.kitAny K (.ref C) [.ref BM, .ref BD] = some false
section
variable {X : Cx} {mg : Str → Option Value} {a C FE BM BD : Addr} {oe : Obj} {cls : Value} {d : Option Addr} {pn : List (Addr × Obj)}
def rIsX (K : PySem.W.Frag) (a C : Addr) (cls : Value) (d : Option Addr) : List V → Hp → VK → Prop := fun xs H Q => ∃ (dd : Addr) (fs : List (Str × V)), cls = .ref C ∧ d = some dd ∧ H dd = some (.xd fs) ∧
  ((∃ c u b, xs = [.ref a, c] ∧ ClsV c u ∧ PySem.W.kitOne K (.ref C) u = some b ∧ Q (.bl b) H) ∨ (∃ tp cs us b, xs = [.ref a, .ref tp] ∧ H tp = some (.tup cs) ∧ Paired ClsV cs us ∧ PySem.W.kitAny K (.ref C) us = some b ∧ Q (.bl b) H))
theorem call_isX (T : ToldC X.K mg C FE BM BD) (hz : Zc cls d oe) (hf : ∃ vs, oe.data = .fields vs) : CallR (X.suite a ((a, oe) :: pn)) (.builtin "isinstance") (rIsX X.K a C cls d) := by
  intro pins s σ H xs us Q inv rl want
  obtain ⟨dd, fs, rfl, rfl, hd, want⟩ := want
  obtain ⟨at0, _⟩ := inv.pin (a, oe) (List.mem_append_left _ List.mem_cons_self)
  obtain ⟨vs, hv⟩ := hf
  have there : ObjOk X.prog X.w H s.heap dd (.xd fs) := inv.hok dd _ hd
  obtain ⟨mA, hns, _⟩ := there
  obtain ⟨od, ho, _⟩ := lookIn_ns hns
  have J : PySem.W.InstAt s.heap a oe C (some od) := ⟨at0, hz.1, by unfold PySem.W.notCls; rw [hv] <;> rfl, by rw [hz.2]; exact ho⟩
  have Z := PySem.W.kitx_exc (x := a) (ox := oe) (od := some od) T.hcl T.xf.ga T.hgt T.xf.exC T.ha T.hn T.ht T.hm
  rcases want with ⟨c, u, b, rfl, k, e, q⟩ | ⟨tp, cs, ws, b, rfl, hT, k, e, q⟩
  · cases rl with
    | cons r1 rr =>
      cases rr with
      | cons r2 rr =>
        cases rr
        cases r1
        have e2 := k.eq r2
        subst e2
        exact PySem.W.kia_one Z inv.kIn J e (fun z => nomatch z) fun tk => ⟨.bl b, H, inv.tok tk, rfl, q⟩
  · cases rl with
    | cons r1 rr =>
      cases rr with
      | cons r2 rr =>
        cases rr
        cases r1
        cases r2
        obtain ⟨_, its, rv, o, h1, h2, n, h3⟩ := (show ObjOk X.prog X.w H s.heap tp (.tup cs) from inv.hok tp _ hT)
        have e3 := ClsV.all k rv
        subst e3
        obtain ⟨oc, oo, dt, sl⟩ := o
        simp only at h2 h3
        subst h2 h3
        exact PySem.W.kia_tup Z inv.kIn J h1 e (fun z => nomatch z) fun tk => ⟨.bl b, H, inv.tok tk, rfl, q⟩
end
def spTold (K : PySem.W.Frag) : Sp := fun vs H Q _ => ∃ (x y : V) (n p : PyData), vs = [x, y] ∧ Dp K H x n ∧ AnyD K H y p ∧ ∀ r H', Same H H' → Dp K H' r (dueD (ordFault n p)) → Q r H'
section
variable {P : Program} {w : World} {K : PySem.W.Frag} {mg : Str → Option Value} {base : Heap}
theorem sc_told : FnScope ["n", "pairs", "raised", "order"] ["n", "pairs"] (defScope s_told) := ⟨rfl, rfl, rfl, by decide +kernel, rfl, by decide +kernel, by decide +kernel⟩
theorem ok_told {f C CO FE BM BD fO : Addr} {fd fdO : FuncData} (F : Fun K "_law_told" "_law_told" s_told f fd) (T : Bl mg) (TC : ToldC K mg C FE BM BD) (OC : OrC K CO) (n1 : PySem.W.findIn K (.ref C) "what" = some none) (n2 : PySem.W.findIn K (.ref C) "at" = some none)
    (gBO : mg "BadOrder" = some (.ref C)) (gO : mg "Order" = some (.ref CO)) (MO : Mk K CO fO) (GO : FnOk P w K mg base (L2.CX P w) 4 fO fdO ["self", "n", "pairs"] (spOI K CO C)) (bO : Binds K fdO ["self", "n", "pairs"] []) : FnOk P w K mg base CX0 6 f fd ["n", "pairs"] (spTold K) := by
  refine F.ok sc_told (fun vs H Q E h => ?_) (fun cdv A outer s H vs Q E hr h => ?_)
  · obtain ⟨x, y, n, p, rfl, _⟩ := h
    rfl
  · obtain ⟨x, y, n, p, rfl, hn, hp, k⟩ := h
    refine ⟨_,
      (pss_cons (ps_try_as (i := 2) rfl rfl sc_told.nd rfl rfl ⟨rfl, by decide, .inl gBO⟩ takes0 (fun W pn xe tk _ =>
        (pss_one (ps_set (i := 3) sc_told.nd rfl (Or.inl rfl) (pe_makeS MO GO (hr.mono (by decide)) (by rfl) gO bO (fun σ => passAt tk σ) (pa_cons (pv 0) (pa_cons (pv 1) pa_nil))))))
        (fun a oe cls d pn hz hf =>
        (pss_cons (ps_if (PW.pt (pw_or (pt_not (pt_val (pe_callB (call_isX TC hz hf) (by rfl) T.n_isinstance (by decide +kernel) (pa_cons (pv 2) (pa_cons (pe_glob (v := .ref FE) (by rfl) TC.gFrameError rfl) pa_nil))))) (pw_or1 (pt_not (pt_val (pe_callB (call_isX TC hz hf) (by rfl) T.n_isinstance (by decide +kernel) (pa_cons (pv 2) (pa_cons (pe_bltn (v := .ty "ValueError") (u := .type "ValueError") (by rfl) TC.n_ValueError (by decide +kernel) rfl) pa_nil))))))))
          (pss_one (ps_ret (pe_tup (pa_cons pe_str (pa_cons pe_int pa_nil)))))
          pss_nil)
        (pss_cons (ps_if (pt_val (pe_callB (call_isX TC hz hf) (by rfl) T.n_isinstance (by decide +kernel) (pa_cons (pv 2) (pa_cons (pe_tup (pa_cons (pe_glob (v := .ref BM) (by rfl) TC.gBadMake rfl) (pa_cons (pe_glob (v := .ref BD) (by rfl) TC.gBadData rfl) pa_nil))) pa_nil))))
          (pss_one (ps_ret (pe_tup (pa_cons pe_str (pa_cons pe_int pa_nil)))))
          pss_nil)
        (pss_one (ps_ret (pe_tup (pa_cons (pe_xf TC.xf n1 hz hf (pv 2)) (pa_cons (pe_xf TC.xf n2 hz hf (pv 2)) pa_nil)))))))))
      (pss_one (ps_ret (pe_ifExp (pt_cmpR op_eq (kfld K (pv 3) rfl) (pv 0) (nomark _)) pe_non (pe_tup (pa_cons pe_str (pa_cons pe_int pa_nil)))))))
      , ?_⟩
    walk_at "r"
    intro o dx ho hdx ndx
    have sH : Same H (upd (upd H dx (.own o)) o (.ins CO dx [])) := (same_new hdx).trans (same_new (by rw [upd_ne ndx.symm]; exact ho))
    refine ⟨o, dx, x, y, n, p, rfl, upd_same, Dp.same sH _ _ hn, hp.same sH, fun hF H' kp OF => ⟨rfl, ?_⟩, fun what at_ hF dd H' s2 e => ⟨true, TC.ex, fun _ a hna => ?_, fun q => Bool.noConfusion q⟩⟩
    · have sF : Same H H' := fun b v hb => kp b v (sH b v hb) (ne_of_none hb ho)
      have hP : partsFault n p = none := by
        cases hh : partsFault n p with
        | none => rfl
        | some z =>
          rw [of_parts hh] at hF
          cases hF
      obtain ⟨m, rfl, _⟩ := parts_ok hP
      cases hn
      obtain ⟨pa, pb, pc, pe, pd, ra, rb, rc, rd, eo, _⟩ := OF.ex
      have lk : (oF (natOf (.int (m : Int))) pa pb pc pe pd).lookup ("n" : Str) = some (.int (m : Int)) := lkN (by decide +kernel) (lkN (by decide +kernel) (lkN (by decide +kernel) (lkN (by decide +kernel) (lkN (by decide +kernel) lkY))))
      walk_at "r"
      refine ⟨o, CO, dx, _, _, rfl, eo, OC.cl, OC.a1, lk, ?_⟩
      walk_at "r"
      refine ifT (dT rfl) ?_
      refine k _ _ sF ?_
      rw [hF]
      exact .non
    · walk_at "r"
      refine ⟨dd, _, rfl, rfl, e, .inl ⟨_, _, _, rfl, .own _, TC.k1, ?_⟩⟩
      walk_at "r"
      refine ⟨dd, _, rfl, rfl, e, .inl ⟨_, _, _, rfl, .ty _, TC.k2, ?_⟩⟩
      walk_at "r"
      refine ⟨(by show 2 ≤ sizeLine; decide), fun tp htp => ?_⟩
      have e3 := same_new (o := .tup [V.ref BM, V.ref BD]) htp _ _ e
      refine ⟨dd, _, rfl, rfl, e3, .inr ⟨_, _, _, _, rfl, upd_same, .cons (.own _) (.cons (.own _) .nil), TC.k3, ?_⟩⟩
      walk_at "r"
      refine ⟨dd, _, _, rfl, e3, rfl, ?_⟩
      walk_at "r"
      refine ⟨dd, _, _, rfl, e3, rfl, ?_⟩
      walk_at "r"
      refine ⟨(by show 2 ≤ sizeLine; decide), fun r hrr => ?_⟩
      refine k _ _ (((sH.trans s2).trans (same_new htp)).trans (same_new hrr)) ?_
      rw [hF]
      exact .tup (SqT.of upd_same) (.cons (.str _) (.cons (.int _) .nil))
end
end Z

set_option Elab.async false
set_option linter.all false
set_option maxRecDepth 100000
set_option maxHeartbeats 2100000
namespace Z
open PySem L2
local macro_rules | `(tactic| walk_at "side") => `(tactic| first | omega | (unfold CMul; omega) | (unfold CDiv; omega) | (unfold CDivN; omega) | (unfold CPow; omega) | decide)
local macro_rules | `(tactic| walk_at "lst") => `(tactic| first | exact SqL.of (by assumption) | exact SqL.of upd_same | assumption | exact upd_same)
local macro_rules | `(tactic| walk_at "r1") => `(tactic| first | refine ⟨_, rfl, ?_⟩ | refine ⟨_, _, rfl, rfl, ?_⟩ | refine Or.inl ⟨_, rfl, ?_⟩ | refine And.intro rfl ?_ | refine ⟨_, _, _, _, rfl, rfl, by walk_at "lst", rfl, ?_⟩ | refine ⟨_, _, rfl, Or.inl (by walk_at "lst"), ?_⟩ | refine And.intro (by walk_at "side") ?_)
local macro_rules | `(tactic| walk_at "r") => `(tactic| repeat walk_at "r1")
abbrev s_spoilt : Stmt := top 31
/-- items side by side with the data that they are; tuples of two numbers stand as tuples of their own -/
inductive IAll (K : PySem.W.Frag) (H : Hp) : List V → List PyData → Prop
  | nil : IAll K H [] []
  | cons {v : V} {vs : List V} {d : PyData} {ds : List PyData} : Dp K H v d → TkP H v d → IAll K H vs ds → IAll K H (v :: vs) (d :: ds)
theorem IAll.same {K : PySem.W.Frag} {H H' : Hp} (s : Same H H') : ∀ {vs : List V} {ds : List PyData}, IAll K H vs ds → IAll K H' vs ds
  | _, _, .nil => .nil
  | _, _, .cons a b c => .cons (Dp.same s _ _ a) (TkP.same s b) (IAll.same s c)
theorem IAll.len {K : PySem.W.Frag} {H : Hp} : ∀ {vs : List V} {ds : List PyData}, IAll K H vs ds → vs.length = ds.length
  | _, _, .nil => rfl
  | _, _, .cons _ _ c => congrArg (· + 1) (IAll.len c)
theorem IAll.app {K : PySem.W.Frag} {H : Hp} : ∀ {vs ws : List V} {ds es : List PyData}, IAll K H vs ds → IAll K H ws es → IAll K H (vs ++ ws) (ds ++ es)
  | _, _, _, _, .nil, h => h
  | _, _, _, _, .cons a b c, h => .cons a b (IAll.app c h)
theorem IAll.take {K : PySem.W.Frag} {H : Hp} : ∀ {vs : List V} {ds : List PyData} (n : Nat), IAll K H vs ds → IAll K H (vs.take n) (ds.take n)
  | _, _, 0, _ => .nil
  | _, _, _ + 1, .nil => .nil
  | _, _, n + 1, .cons a b c => .cons a b (IAll.take n c)
theorem IAll.drop {K : PySem.W.Frag} {H : Hp} : ∀ {vs : List V} {ds : List PyData} (n : Nat), IAll K H vs ds → IAll K H (vs.drop n) (ds.drop n)
  | _, _, 0, h => h
  | _, _, _ + 1, .nil => .nil
  | _, _, n + 1, .cons _ _ c => IAll.drop n c
theorem IAll.dp {K : PySem.W.Frag} {H : Hp} : ∀ {vs : List V} {ds : List PyData}, IAll K H vs ds → DpAll K H vs ds
  | _, _, .nil => .nil
  | _, _, .cons a _ c => .cons a (IAll.dp c)
theorem IAll.tk {K : PySem.W.Frag} {H : Hp} : ∀ {vs : List V} {ds : List PyData}, IAll K H vs ds → ∀ (i : Nat) v d, vs[i]? = some v → ds[i]? = some d → TkP H v d
  | _, _, .nil, _, _, _, h, _ => by simp at h
  | _, _, .cons _ b _, 0, _, _, h1, h2 => by
    simp at h1 h2
    subst h1 h2
    exact b
  | _, _, .cons _ _ c, i + 1, v, d, h1, h2 => IAll.tk c i v d (by simpa using h1) (by simpa using h2)
theorem IAll.perm {K : PySem.W.Frag} {H : Hp} {ws vs : List V} (p : ws.Perm vs) : ∀ {ds : List PyData}, IAll K H vs ds → ∃ es, IAll K H ws es ∧ es.Perm ds := by
  induction p with
  | nil => exact fun h => ⟨_, h, .refl _⟩
  | cons x _ ih =>
    rintro _ (_ | ⟨a, b, c⟩)
    obtain ⟨es, h1, h2⟩ := ih c
    exact ⟨_, .cons a b h1, h2.cons _⟩
  | swap x y l =>
    rintro _ (_ | ⟨a, b, (_ | ⟨a2, b2, c⟩)⟩)
    exact ⟨_, .cons a2 b2 (.cons a b c), .swap _ _ _⟩
  | trans _ _ ih1 ih2 =>
    intro ds h
    obtain ⟨es, h1, h2⟩ := ih2 h
    obtain ⟨fs, h3, h4⟩ := ih1 h1
    exact ⟨fs, h3, h4.trans h2⟩
/-- data whose text is short -/
structure Sh (n : Nat) (k : Nat) (d : PyData) : Prop where
  sw : d.showable = true
  nd : d.hasDict = false
  dp : d.depth ≤ n
  ln : d.shown.length ≤ k
theorem Sh.mono {n m k j : Nat} {d : PyData} (h : Sh n k d) (h1 : n ≤ m) (h2 : k ≤ j) : Sh m j d := ⟨h.sw, h.nd, Nat.le_trans h.dp h1, Nat.le_trans h.ln h2⟩
theorem sh_int {i : Int} (h : i.natAbs.log2 < 1920) : Sh 0 1921 (.int i) := ⟨by simp [PyData.showable, h], by simp [PyData.hasDict], by simp [PyData.depth], by
  simp only [PyData.shown]
  exact PyProof.Rows.int_text_len_1921 h⟩
theorem sh_small {i : Int} (h0 : -1000 ≤ i) (h1 : i ≤ 1000) : Sh 0 1921 (.int i) := sh_int (by
  by_cases hz : i.natAbs = 0
  · rw [hz]
    decide
  · rw [Nat.log2_lt hz]
    exact Nat.lt_of_lt_of_le (by omega : i.natAbs < 2 ^ 10) (Nat.pow_le_pow_right (by decide) (by decide)))
theorem sh_all {k : Nat} : ∀ {ds : List PyData} {n : Nat}, (∀ d ∈ ds, Sh n k d) → PyData.showableAll ds = true ∧ PyData.hasDictAll ds = false ∧ PyData.depthAll ds ≤ n ∧ ((PyData.shownAll ds).map (·.length)).sum ≤ ds.length * k ∧ (PyData.shownAll ds).length = ds.length
  | [], _, _ => by simp [PyData.showableAll, PyData.hasDictAll, PyData.depthAll, PyData.shownAll]
  | d :: ds, n, h => by
    obtain ⟨a1, a2, a3, a4, a5⟩ := sh_all (ds := ds) (n := n) fun e he => h e (List.mem_cons_of_mem _ he)
    have hd := h d List.mem_cons_self
    refine ⟨by simp [PyData.showableAll, hd.sw, a1], by simp [PyData.hasDictAll, hd.nd, a2], ?_, ?_, by simp [PyData.shownAll, a5]⟩
    · have := hd.dp
      simp only [PyData.depthAll]
      omega
    · have := hd.ln
      simp only [PyData.shownAll, List.map_cons, List.sum_cons, List.length_cons, Nat.add_mul]
      omega
theorem sh_list {n k : Nat} {ds : List PyData} (h : ∀ d ∈ ds, Sh n k d) : Sh (n + 1) (ds.length * k + 2 * ds.length + 3) (.list ds) := by
  obtain ⟨a1, a2, a3, a4, a5⟩ := sh_all h
  refine ⟨by simp [PyData.showable, a1], by simp [PyData.hasDict, a2], by simp only [PyData.depth]; omega, ?_⟩
  simp only [PyData.shown]
  have := listText_len_le (PyData.shownAll ds)
  rw [a5] at this
  omega
theorem sh_tuple {n k : Nat} {ds : List PyData} (h : ∀ d ∈ ds, Sh n k d) : Sh (n + 1) (ds.length * k + 2 * ds.length + 3) (.tuple ds) := by
  obtain ⟨a1, a2, a3, a4, a5⟩ := sh_all h
  refine ⟨by simp [PyData.showable, a1], by simp [PyData.hasDict, a2], by simp only [PyData.depth]; omega, ?_⟩
  simp only [PyData.shown]
  have := tupleText_len_le (PyData.shownAll ds)
  rw [a5] at this
  omega
/-- a tuple of two is one of two numbers; all of it short -/
def OK2 (d : PyData) : Prop := (∀ a b, d = .tuple [a, b] → ∃ i j : Int, a = .int i ∧ b = .int j) ∧ Sh 1 6000 d
/-- a list of pairs, right or spoilt, at q -/
structure PI (K : PySem.W.Frag) (H : Hp) (q : Addr) (ds : List PyData) : Prop where
  ex : ∃ ys, H q = some (.lst ys) ∧ IAll K H ys ds
  ok : ∀ d ∈ ds, OK2 d
theorem PI.same {K : PySem.W.Frag} {H H' : Hp} {q : Addr} {ds : List PyData} (p : PI K H q ds) (s : Same H H') : PI K H' q ds := by
  obtain ⟨ys, e, a⟩ := p.ex
  exact ⟨⟨ys, s _ _ e, a.same s⟩, p.ok⟩
theorem PI.pl {K : PySem.W.Frag} {H : Hp} {q : Addr} {ds : List PyData} (p : PI K H q ds) : PL K H q ds := by
  obtain ⟨ys, e, a⟩ := p.ex
  exact ⟨⟨ys, e, a.dp, a.tk⟩⟩
def cutD (ds : List PyData) (lo hi : Option Int) : List PyData := (ds.drop (HT.sIx ds.length 0 lo)).take (HT.sIx ds.length ds.length hi - HT.sIx ds.length 0 lo)
theorem IAll.cut {K : PySem.W.Frag} {H : Hp} {vs : List V} {ds : List PyData} (h : IAll K H vs ds) (lo hi : Option Int) : IAll K H (cutV vs lo hi) (cutD ds lo hi) := by
  unfold cutV cutD
  rw [h.len]
  exact (h.drop _).take _
theorem cutD_mem {ds : List PyData} {lo hi : Option Int} {d : PyData} (h : d ∈ cutD ds lo hi) : d ∈ ds := List.mem_of_mem_drop (List.mem_of_mem_take h)
theorem cutD_sum (ds : List PyData) (k j : Nat) (h : k ≤ j) : (cutD ds none (some (k : Int))).length + (cutD ds (some (j : Int)) none).length ≤ ds.length := by
  unfold cutD
  rw [HT.sIx_none, HT.sIx_nat, HT.sIx_nat, HT.sIx_none, List.length_take, List.length_drop, List.length_take, List.length_drop]
  omega
theorem sh_two {a b : PyData} (ha : Sh 0 1921 a) (hb : Sh 0 1921 b) : ∀ d ∈ [a, b], Sh 0 1921 d := fun d hd => by
  rcases List.mem_cons.mp hd with rfl | hd
  · exact ha
  · rcases List.mem_cons.mp hd with rfl | hd
    · exact hb
    · cases hd
theorem OK2.of {a b : Int} (ha : Sh 0 1921 (.int a)) (hb : Sh 0 1921 (.int b)) : OK2 (.tuple [.int a, .int b]) := ⟨fun x y e => by
  injection e with e
  injection e with e1 e
  injection e with e2 e
  exact ⟨a, b, e1.symm, e2.symm⟩, (sh_tuple (sh_two ha hb)).mono (by decide) (by show 2 * 1921 + 2 * 2 + 3 ≤ 6000; decide)⟩
theorem TkP.of {H : Hp} {p : Addr} {a b : Int} (e : H p = some (.tup [.int a, .int b])) : TkP H (.ref p) (.tuple [.int a, .int b]) := fun x y q => by
  injection q with q
  injection q with q1 q
  injection q with q2 q
  cases q1
  cases q2
  exact ⟨p, rfl, e⟩
theorem TkP.no {H : Hp} {v : V} {d : PyData} (h : ∀ a b : Int, d ≠ .tuple [.int a, .int b]) : TkP H v d := fun a b e => absurd e (h a b)
theorem atI_in {α : Type} {xs : List α} {i : Int} (h0 : 0 ≤ i) (h1 : i < xs.length) : ∃ v, atI xs i = some v ∧ v ∈ xs := by
  have hi : i.toNat < xs.length := by omega
  have e : i = ((i.toNat : Nat) : Int) := by omega
  obtain ⟨v, hv⟩ : ∃ v, xs[i.toNat]? = some v := ⟨_, List.getElem?_eq_getElem hi⟩
  refine ⟨v, ?_, List.mem_of_getElem? hv⟩
  rw [e]
  exact atI_nat hv
section
variable {K : PySem.W.Frag} {h ha q : Addr} {ds : List PyData} {i : Nat} {σ : L2.St} {H : Hp} {Q : VK} {te : TE}
/-- pairs[:at] + [x] + pairs[at:] -/
theorem te_sand (hq : σ[2]? = some (some (.ref q))) (h4 : σ[4]? = some (some (.int (i : Nat)))) (pi : PI K (hid h H) q ds) (hn : Hnd H h ha) (hl : ds.length ≤ 1000)
    (he : ∀ H1 (Q1 : VK), Keep h H H1 → Hnd H1 h ha → (∀ l v d H2, Keep h H1 H2 → Hnd H2 h ha → H2 l = some (.lst [v]) → l ≠ h → Dp K (hid h H2) v d → TkP (hid h H2) v d → OK2 d → Q1 (.ref l) H2) → te σ H1 Q1)
    (k : ∀ r es H', Keep h H H' → Hnd H' h ha → PI K (hid h H') r es → es.length ≤ ds.length + 1 → Q (.ref r) H') :
    tOp rCat (tOp rCat (tSl (rSlL K) (tVar 2) tNoPart (tPart (tVar 4))) te) (tSl (rSlL K) (tVar 2) (tPart (tVar 4)) tNoPart) σ H Q := by
  obtain ⟨ys, ey, ia⟩ := pi.ex
  have hyl := ia.len
  have eH := hid_same _ _ ey
  have qh : q ≠ h := fun z => by
    rw [z] at ey
    unfold hid at ey
    rw [if_pos rfl] at ey
    cases ey
  refine ⟨_, hq, _, h4, _, rfl, q, ys, rfl, SqL.of eH, fun p1 hp1 => ?_⟩
  have n1 := hn.new (o := .lst (cutV ys none (some (i : Int)))) hp1
  have k1 : Keep h H (upd H p1 (.lst (cutV ys none (some (i : Int))))) := Keep.new hp1
  have e1 : upd H p1 (.lst (cutV ys none (some (i : Int)))) p1 = some (.lst (cutV ys none (some (i : Int)))) := upd_same
  have ph1 : p1 ≠ h := hn.ne hp1
  generalize upd H p1 (.lst (cutV ys none (some (i : Int)))) = H1 at n1 k1 e1 ⊢
  refine he H1 _ k1 n1 fun l v d H2 k2 n2 el lh dv tv ok => ?_
  have e12 := k2 _ _ e1 ph1
  have c1 := cutV_length ys none (some (i : Int))
  have c2 := cutV_length ys (some (i : Int)) none
  refine ⟨p1, l, _, _, rfl, rfl, e12, el, (by show _ + 1 ≤ sizeLine; exact Nat.le_of_lt (Nat.lt_of_le_of_lt (by omega) (by decide : 1002 < sizeLine))), fun p3 hp3 => ?_⟩
  have n3 := n2.new (o := .lst (cutV ys none (some (i : Int)) ++ [v])) hp3
  have k3 : Keep h H2 (upd H2 p3 (.lst (cutV ys none (some (i : Int)) ++ [v]))) := Keep.new hp3
  have e3 : upd H2 p3 (.lst (cutV ys none (some (i : Int)) ++ [v])) p3 = some (.lst (cutV ys none (some (i : Int)) ++ [v])) := upd_same
  have ph3 : p3 ≠ h := n2.ne hp3
  generalize upd H2 p3 (.lst (cutV ys none (some (i : Int)) ++ [v])) = H3 at n3 k3 e3 ⊢
  have kq := (k1.trans k2).trans k3
  refine ⟨_, hq, _, h4, _, rfl, q, ys, rfl, SqL.of (kq _ _ eH qh), fun p4 hp4 => ?_⟩
  have n4 := n3.new (o := .lst (cutV ys (some (i : Int)) none)) hp4
  have k4 : Keep h H3 (upd H3 p4 (.lst (cutV ys (some (i : Int)) none))) := Keep.new hp4
  have e4 : upd H3 p4 (.lst (cutV ys (some (i : Int)) none)) p4 = some (.lst (cutV ys (some (i : Int)) none)) := upd_same
  have e34 := k4 _ _ e3 ph3
  generalize upd H3 p4 (.lst (cutV ys (some (i : Int)) none)) = H4 at n4 k4 e4 e34 ⊢
  refine ⟨p3, p4, _, _, rfl, rfl, e34, e4, (by rw [List.length_append]; show _ + 1 + _ ≤ sizeLine; exact Nat.le_of_lt (Nat.lt_of_le_of_lt (by omega) (by decide : 2002 < sizeLine))), fun r hr => ?_⟩
  have k5 : Keep h H4 (upd H4 r (.lst (cutV ys none (some (i : Int)) ++ [v] ++ cutV ys (some (i : Int)) none))) := Keep.new hr
  have kv := k3.trans (k4.trans k5)
  have kall := kq.trans (k4.trans k5)
  have iy := ia.same kall.hid
  refine k r (cutD ds none (some (i : Int)) ++ [d] ++ cutD ds (some (i : Int)) none) _ kall (n4.new hr) ⟨⟨_, hid_of upd_same (n4.ne hr), ((iy.cut none (some (i : Int))).app (.cons (Dp.same kv.hid _ _ dv) (tv.same kv.hid) .nil)).app (iy.cut (some (i : Int)) none)⟩, fun e hm => ?_⟩ ?_
  · rcases List.mem_append.mp hm with hm | hm
    · rcases List.mem_append.mp hm with hm | hm
      · exact pi.ok e (cutD_mem hm)
      · have z : e = d := by simpa using hm
        rw [z]
        exact ok
    · exact pi.ok e (cutD_mem hm)
  · have z := cutD_sum ds i i (Nat.le_refl _)
    rw [List.length_append, List.length_append]
    show _ + 1 + _ ≤ _
    omega
end
/-- a new list of one item -/
theorem one_val {K : PySem.W.Frag} {h ha l : Addr} {H5 : Hp} {v : V} {d : PyData} (n5 : Hnd H5 h ha) (hl : H5 l = none) (dv : Dp K (hid h H5) v d) (tv : TkP (hid h H5) v d) :
    Keep h H5 (upd H5 l (.lst [v])) ∧ Hnd (upd H5 l (.lst [v])) h ha ∧ upd H5 l (.lst [v]) l = some (.lst [v]) ∧ l ≠ h ∧ Dp K (hid h (upd H5 l (.lst [v]))) v d ∧ TkP (hid h (upd H5 l (.lst [v]))) v d :=
  have k : Keep h H5 (upd H5 l (.lst [v])) := Keep.new hl
  ⟨k, n5.new hl, upd_same, n5.ne hl, Dp.same k.hid _ _ dv, tv.same k.hid⟩
/-- a new tuple of numbers -/
theorem dp_tupI {K : PySem.W.Frag} {h ha t : Addr} {H : Hp} (n : Hnd H h ha) (ht : H t = none) (zs : List Int) : Dp K (hid h (upd H t (.tup (zs.map V.int)))) (.ref t) (.tuple (zs.map PyData.int)) := by
  refine .tup (SqT.of (hid_of upd_same (n.ne ht))) ?_
  have all : ∀ (H0 : Hp) (zs : List Int), DpAll K H0 (zs.map V.int) (zs.map PyData.int) := fun H0 zs => by
    induction zs with
    | nil => exact .nil
    | cons z zs ih => exact .cons (.int _) ih
  exact all _ _
theorem IAll.rep {K : PySem.W.Frag} {H : Hp} {v : V} {d : PyData} (dv : Dp K H v d) (tv : TkP H v d) : ∀ m : Nat, IAll K H (List.replicate m [v]).flatten (List.replicate m [d]).flatten
  | 0 => .nil
  | m + 1 => .cons dv tv (IAll.rep dv tv m)
theorem rep_len {α : Type} (v : α) : ∀ m : Nat, (List.replicate m [v]).flatten.length = m
  | 0 => rfl
  | m + 1 => congrArg (· + 1) (rep_len v m)
theorem rep_mem {α : Type} {v x : α} : ∀ {m : Nat}, x ∈ (List.replicate m [v]).flatten → x = v
  | 0, h => nomatch h
  | m + 1, h => by
    rcases List.mem_cons.mp (show x ∈ v :: (List.replicate m [v]).flatten from h) with h | h
    · exact h
    · exact rep_mem h
def spSpoilt (K : PySem.W.Frag) : Sp := fun vs H Q _ => ∃ (h ha q : Addr) (n : Nat) (ds : List PyData), vs = [.ref h, .int (n : Int), .ref q] ∧ Hnd H h ha ∧ 1 ≤ n ∧ n ≤ 24 ∧ PI K (hid h H) q ds ∧ ds.length ≤ 1000 ∧
  (∀ d ∈ ds, ∃ i j : Int, d = .tuple [.int i, .int j]) ∧
  ∀ r es H', Keep h H H' → Hnd H' h ha → PI K (hid h H') r es → (es.length ≤ ds.length + 1 ∨ es.length ≤ 601) → Q (.ref r) H'
section
variable {P : Program} {w : World} {K : PySem.W.Frag} {mg : Str → Option Value} {base : Heap}
theorem sc_spoilt : FnScope ["hand", "n", "pairs", "way", "at", "odd", "pair"] ["hand", "n", "pairs"] (defScope s_spoilt) := ⟨rfl, rfl, rfl, by decide +kernel, rfl, by decide +kernel, by decide +kernel⟩
theorem ok_spoilt {f : Addr} {fd : FuncData} (F : Fun K "_law_spoilt" "_law_spoilt" s_spoilt f fd) (T : Bl mg) (c_law_draw : Cal P w K mg base CX0 "_law_draw" 2 spDraw) : FnOk P w K mg base CX0 3 f fd ["hand", "n", "pairs"] (spSpoilt K) := by
  refine F.ok sc_spoilt (fun vs H Q E h => ?_) (fun cdv A outer s H vs Q E hr h => ?_)
  · obtain ⟨h, ha, q, n, ds, rfl, _⟩ := h
    rfl
  · obtain ⟨h, ha, q, n, ds, rfl, hn, h1, h24, pi, hl, hd2, k⟩ := h
    refine ⟨_,
      (pss_cons (ps_set (i := 3) sc_spoilt.nd rfl (Or.inl rfl) (pe_cal c_law_draw (hr.mono (by decide)) (by rfl) (pa_cons (pv 0) (pa_cons pe_int pa_nil))))
      (pss_cons (ps_set (i := 4) sc_spoilt.nd rfl (Or.inr rfl) (pe_cal c_law_draw (hr.mono (by decide)) (by rfl) (pa_cons (pv 0) (pa_cons (pe_op op_add (pe_callB (klen K) (by rfl) T.n_len PySem.boot_len (pa_cons (pv 2) pa_nil)) pe_int) pa_nil))))
      (pss_cons (ps_if (pt_cmpR op_eq (pv 3) pe_int (nomark _))
        (pss_one (ps_ret (pe_op op_cat (pe_slice (ksl_list K) (pv 2) po_none (po_some (pv 4))) (pe_slice (ksl_list K) (pv 2) (po_some (pe_op op_add (pv 4) pe_int)) po_none))))
        pss_nil)
      (pss_cons (ps_if (pt_cmpR op_eq (pv 3) pe_int (nomark _))
        (pss_one (ps_ret (pe_op op_cat (pe_op op_cat (pe_slice (ksl_list K) (pv 2) po_none (po_some (pv 4))) (pe_lst (pa_cons (pe_tup (pa_cons (pe_cal c_law_draw (hr.mono (by decide)) (by rfl) (pa_cons (pv 0) (pa_cons (pv 1) pa_nil))) (pa_cons (pe_cal c_law_draw (hr.mono (by decide)) (by rfl) (pa_cons (pv 0) (pa_cons (pv 1) pa_nil))) pa_nil))) pa_nil))) (pe_slice (ksl_list K) (pv 2) (po_some (pv 4)) po_none))))
        pss_nil)
      (pss_cons (ps_if (pt_cmpR op_eq (pv 3) pe_int (nomark _))
        (pss_one (ps_ret (pe_op op_cat (pe_op op_cat (pe_slice (ksl_list K) (pv 2) po_none (po_some (pv 4))) (pe_lst (pa_cons (pe_tup (pa_cons (pv 1) (pa_cons pe_int pa_nil))) pa_nil))) (pe_slice (ksl_list K) (pv 2) (po_some (pv 4)) po_none))))
        pss_nil)
      (pss_cons (ps_if (pt_cmpR op_eq (pv 3) pe_int (nomark _))
        (pss_cons (ps_set (i := 5) sc_spoilt.nd rfl (Or.inl rfl) (pe_ix (kix_list K) (pe_lst (pa_cons pe_non (pa_cons (pe_un un_neg pe_int) (pa_cons pe_str (pa_cons pe_bl (pa_cons (pe_op op_pow pe_int pe_int) (pa_cons (pv 1) pa_nil))))))) (pe_cal c_law_draw (hr.mono (by decide)) (by rfl) (pa_cons (pv 0) (pa_cons pe_int pa_nil))) (fun _ _ => rfl)))
        (pss_one (ps_ret (pe_op op_cat (pe_op op_cat (pe_slice (ksl_list K) (pv 2) po_none (po_some (pv 4))) (pe_lst (pa_cons (pe_ifExp (kt_truth K (pe_cal c_law_draw (hr.mono (by decide)) (by rfl) (pa_cons (pv 0) (pa_cons pe_int pa_nil))) (by intro _; rfl)) (pe_lst (pa_cons pe_int (pa_cons (pv 5) pa_nil))) (pe_lst (pa_cons (pv 5) (pa_cons (pe_op op_sub (pv 1) pe_int) pa_nil)))) pa_nil))) (pe_slice (ksl_list K) (pv 2) (po_some (pv 4)) po_none)))))
        pss_nil)
      (pss_cons (ps_if (pt_cmpR op_eq (pv 3) pe_int (nomark _))
        (pss_one (ps_ret (pe_op op_cat (pe_op op_cat (pe_slice (ksl_list K) (pv 2) po_none (po_some (pv 4))) (pe_lst (pa_cons (pe_ix (kix_list K) (pe_lst (pa_cons pe_non (pa_cons pe_int (pa_cons pe_str (pa_cons (pe_tup pa_nil) (pa_cons (pe_tup (pa_cons pe_int pa_nil)) (pa_cons (pe_tup (pa_cons pe_int (pa_cons pe_int (pa_cons pe_int pa_nil)))) pa_nil))))))) (pe_cal c_law_draw (hr.mono (by decide)) (by rfl) (pa_cons (pv 0) (pa_cons pe_int pa_nil))) (fun _ _ => rfl)) pa_nil))) (pe_slice (ksl_list K) (pv 2) (po_some (pv 4)) po_none))))
        pss_nil)
      (pss_cons (ps_if (pt_cmpR op_eq (pv 3) pe_int (nomark _))
        (pss_one (ps_ret (pe_op op_cat (pv 2) (pe_op op_rep (pe_lst (pa_cons (pe_tup (pa_cons pe_int (pa_cons pe_int pa_nil))) pa_nil)) (pe_op op_sub (pe_ix (kix_list K) (pe_lst (pa_cons pe_int (pa_cons pe_int (pa_cons pe_int pa_nil)))) (pe_cal c_law_draw (hr.mono (by decide)) (by rfl) (pa_cons (pv 0) (pa_cons pe_int pa_nil))) (fun _ _ => rfl)) (pe_callB (klen K) (by rfl) T.n_len PySem.boot_len (pa_cons (pv 2) pa_nil)))))))
        pss_nil)
      (pss_one (ps_ret (pe_lc (own := [("pair", 6)]) (by rfl) sc_spoilt.nd (kpi_list K (pv 2)) (blkOk_by (own := [("pair", 6)]) (by show blkC ["hand", "n", "pairs", "way", "at", "odd", "pair"] (defScope s_spoilt) _ _ = true; decide +kernel)) (fun _ _ _ _ _ => (pg_name (i := 6) sc_spoilt.nd rfl (Or.inl rfl))) (fun _ _ _ _ _ => (pts_one (pt_cmpR op_ne (pe_ix (kix_tup K) (pv 6) pe_int (fun _ _ => rfl)) (pv 4) (nomark _)))) (fun _ _ _ _ _ => (pv 6)))))))))))))
      , ?_⟩
    walk_at "r"
    obtain ⟨ys, ey, ia⟩ := pi.ex
    have hyl := ia.len
    have eH := hid_same _ _ ey
    have qh : q ≠ h := fun z => by
      rw [z] at ey
      unfold hid at ey
      rw [if_pos rfl] at ey
      cases ey
    refine ⟨h, ha, _, rfl, hn, by omega, by omega, fun way H1 w0 w1 k1 n1 _ => ?_⟩
    have e1 := k1 _ _ eH qh
    walk_at "r"
    refine ⟨h, ha, _, rfl, n1, by omega, by omega, fun at_ H2 a0 a1 k2 n2 _ => ?_⟩
    have e2 := k2 _ _ e1 qh
    have pi2 := pi.same (k1.trans k2).hid
    have k12 := k1.trans k2
    obtain ⟨i, rfl⟩ : ∃ i : Nat, at_ = (i : Int) := ⟨at_.toNat, by omega⟩
    walk_at "r"
    refine iteB (fun c0 => ?_) (fun c0 => ?_)
    · walk_at "r"
      refine ⟨q, ys, rfl, SqL.of e2, fun p1 hp1 => ?_⟩
      have n3 := n2.new (o := .lst (cutV ys none (some (i : Int)))) hp1
      have k3 : Keep h H2 (upd H2 p1 (.lst (cutV ys none (some (i : Int))))) := Keep.new hp1
      have e3 : upd H2 p1 (.lst (cutV ys none (some (i : Int)))) p1 = some (.lst (cutV ys none (some (i : Int)))) := upd_same
      have ph1 : p1 ≠ h := n2.ne hp1
      generalize upd H2 p1 (.lst (cutV ys none (some (i : Int)))) = H3 at n3 k3 e3 ⊢
      walk_at "r"
      have ei : (i : Int) + 1 = ((i + 1 : Nat) : Int) := by omega
      refine ⟨q, ys, rfl, SqL.of (k3 _ _ e2 qh), fun p4 hp4 => ?_⟩
      rw [ei]
      have n4 := n3.new (o := .lst (cutV ys (some ((i + 1 : Nat) : Int)) none)) hp4
      have k4 : Keep h H3 (upd H3 p4 (.lst (cutV ys (some ((i + 1 : Nat) : Int)) none))) := Keep.new hp4
      have e4 : upd H3 p4 (.lst (cutV ys (some ((i + 1 : Nat) : Int)) none)) p4 = some (.lst (cutV ys (some ((i + 1 : Nat) : Int)) none)) := upd_same
      have e34 := k4 _ _ e3 ph1
      generalize upd H3 p4 (.lst (cutV ys (some ((i + 1 : Nat) : Int)) none)) = H4 at n4 k4 e4 e34 ⊢
      have c1 := cutV_length ys none (some (i : Int))
      have c2 := cutV_length ys (some ((i + 1 : Nat) : Int)) none
      refine ⟨p1, p4, _, _, rfl, rfl, e34, e4, (by exact Nat.le_of_lt (Nat.lt_of_le_of_lt (by omega) (by decide : 2002 < sizeLine))), fun r hr => ?_⟩
      have k5 : Keep h H4 (upd H4 r (.lst (cutV ys none (some (i : Int)) ++ cutV ys (some ((i + 1 : Nat) : Int)) none))) := Keep.new hr
      have kall := k12.trans (k3.trans (k4.trans k5))
      have iy := ia.same kall.hid
      refine k r (cutD ds none (some (i : Int)) ++ cutD ds (some ((i + 1 : Nat) : Int)) none) _ kall (n4.new hr) ⟨⟨_, hid_of upd_same (n4.ne hr), (iy.cut none (some (i : Int))).app (iy.cut (some ((i + 1 : Nat) : Int)) none)⟩, fun e hm => ?_⟩ ?_
      · rcases List.mem_append.mp hm with hm | hm
        · exact pi.ok e (cutD_mem hm)
        · exact pi.ok e (cutD_mem hm)
      · have z := cutD_sum ds i (i + 1) (Nat.le_succ _)
        rw [List.length_append]
        omega
    · walk_at "r"
      refine iteB (fun c1 => ?_) (fun c1 => ?_)
      · refine te_sand (i := i) rfl rfl pi2 n2 hl (fun H3 Q1 k3 n3 fin => ?_) (fun r es H' k3 n3 p3 l3 => k r es H' (k12.trans k3) n3 p3 (.inl l3))
        walk_at "r"
        refine ⟨h, ha, _, rfl, n3, by omega, by omega, fun u H4 u0 u1 k4 n4 _ => ?_⟩
        walk_at "r"
        refine ⟨h, ha, _, rfl, n4, by omega, by omega, fun v H5 v0 v1 k5 n5 _ => ?_⟩
        walk_at "r"
        refine ⟨(by show 2 ≤ sizeLine; decide), fun t ht => ?_⟩
        walk_at "r"
        refine ⟨(by show 1 ≤ sizeLine; decide), fun l hl0 => ?_⟩
        have dv := dp_tupI (K := K) n5 ht [u, v]
        have tv : TkP (hid h (upd H5 t (.tup [.int u, .int v]))) (.ref t) (.tuple [.int u, .int v]) := TkP.of (hid_of upd_same (n5.ne ht))
        obtain ⟨b1, b2, b3, b4, b5, b6⟩ := one_val (n5.new ht) hl0 dv tv
        exact fin l _ _ _ (k4.trans (k5.trans ((Keep.new ht).trans b1))) b2 b3 b4 b5 b6 (OK2.of (sh_small (by omega) (by omega)) (sh_small (by omega) (by omega)))
      · walk_at "r"
        refine iteB (fun c2 => ?_) (fun c2 => ?_)
        · refine te_sand (i := i) rfl rfl pi2 n2 hl (fun H3 Q1 k3 n3 fin => ?_) (fun r es H' k3 n3 p3 l3 => k r es H' (k12.trans k3) n3 p3 (.inl l3))
          walk_at "r"
          refine ⟨(by show 2 ≤ sizeLine; decide), fun t ht => ?_⟩
          walk_at "r"
          refine ⟨(by show 1 ≤ sizeLine; decide), fun l hl0 => ?_⟩
          have dv := dp_tupI (K := K) n3 ht [(n : Int), 0]
          have tv : TkP (hid h (upd H3 t (.tup [.int (n : Int), .int 0]))) (.ref t) (.tuple [.int (n : Int), .int 0]) := TkP.of (hid_of upd_same (n3.ne ht))
          obtain ⟨b1, b2, b3, b4, b5, b6⟩ := one_val (n3.new ht) hl0 dv tv
          exact fin l _ _ _ ((Keep.new ht).trans b1) b2 b3 b4 b5 b6 (OK2.of (sh_small (by omega) (by omega)) (sh_small (by omega) (by omega)))
        · walk_at "r"
          refine iteB (fun c3 => ?_) (fun c3 => ?_)
          · walk_at "r"
            refine ⟨(by show 6 ≤ sizeLine; decide), fun l0 hl0 => ?_⟩
            walk_at "r"
            refine ⟨h, ha, _, rfl, n2.new hl0, by omega, by omega, fun dd H3 dd0 dd1 k3 n3 _ => ?_⟩
            obtain ⟨ov, eov, mov⟩ := atI_in (xs := [V.non, .int (-1), .str "1", .bl true, .int (10 ^ (30 : Int).toNat), .int (n : Int)]) dd0 dd1
            have k23 : Keep h H2 H3 := (Keep.new hl0).trans k3
            have dov : ∃ d, (∀ H0, Dp K H0 ov d) ∧ Sh 0 1921 d := by
              simp only [List.mem_cons, List.not_mem_nil, or_false] at mov
              rcases mov with rfl | rfl | rfl | rfl | rfl | rfl
              · exact ⟨.none, fun _ => .non, by simp [PyData.showable], by simp [PyData.hasDict], by simp [PyData.depth], by simp only [PyData.shown]; decide +kernel⟩
              · exact ⟨_, fun _ => .int _, sh_small (by omega) (by omega)⟩
              · exact ⟨.str "1", fun _ => .str _, by simp [PyData.showable], by simp [PyData.hasDict], by simp [PyData.depth], by simp only [PyData.shown]; decide +kernel⟩
              · exact ⟨.bool true, fun _ => .bl _, by simp [PyData.showable], by simp [PyData.hasDict], by simp [PyData.depth], by simp only [PyData.shown]; decide +kernel⟩
              · exact ⟨_, fun _ => .int _, sh_int (by decide +kernel)⟩
              · exact ⟨_, fun _ => .int _, sh_small (by omega) (by omega)⟩
            obtain ⟨od, hod, sod⟩ := dov
            refine ⟨_, _, _, _, rfl, rfl, SqL.of (k3 _ _ upd_same (n2.ne hl0)), eov, ?_⟩
            refine te_sand (i := i) rfl rfl (pi2.same k23.hid) n3 hl (fun H4 Q1 k4 n4 fin => ?_) (fun r es H' k4 n4 p4 l4 => k r es H' (k12.trans (k23.trans k4)) n4 p4 (.inl l4))
            walk_at "r"
            refine ⟨h, ha, _, rfl, n4, by omega, by omega, fun e H5 e0 e1 k5 n5 _ => ⟨_, rfl, ?_⟩⟩
            have go : ∀ a b da db (t : Addr), (∀ H0, Dp K H0 a da) → (∀ H0, Dp K H0 b db) → Sh 0 1921 da → Sh 0 1921 db → H5 t = none → ∀ l, upd H5 t (.lst [a, b]) l = none → Q1 (.ref l) (upd (upd H5 t (.lst [a, b])) l (.lst [.ref t])) := fun a b da db t ea eb sa sb ht l hl0 => by
              have dv : Dp K (hid h (upd H5 t (.lst [a, b]))) (.ref t) (.list [da, db]) := .lst (SqL.of (hid_of upd_same (n5.ne ht))) (.cons (ea _) (.cons (eb _) .nil))
              obtain ⟨b1, b2, b3, b4, b5, b6⟩ := one_val (n5.new ht) hl0 dv (TkP.no fun _ _ z => nomatch z)
              exact fin l _ _ _ (k5.trans ((Keep.new ht).trans b1)) b2 b3 b4 b5 b6 ⟨(fun _ _ z => nomatch z), (sh_list (sh_two sa sb)).mono (by decide) (by show 2 * 1921 + 2 * 2 + 3 ≤ 6000; decide)⟩
            refine iteB (fun c => ?_) (fun c => ?_)
            · walk_at "r"
              refine ⟨(by show 2 ≤ sizeLine; decide), fun t ht => ?_⟩
              walk_at "r"
              refine ⟨(by show 1 ≤ sizeLine; decide), fun l hl1 => ?_⟩
              exact go _ _ _ _ t (fun _ => .int _) hod (sh_small (by omega) (by omega)) sod ht l hl1
            · walk_at "r"
              refine ⟨(by show 2 ≤ sizeLine; decide), fun t ht => ?_⟩
              walk_at "r"
              refine ⟨(by show 1 ≤ sizeLine; decide), fun l hl1 => ?_⟩
              exact go _ _ _ _ t hod (fun _ => .int _) sod (sh_small (by omega) (by omega)) ht l hl1
          · walk_at "r"
            refine iteB (fun c4 => ?_) (fun c4 => ?_)
            · refine te_sand (i := i) rfl rfl pi2 n2 hl (fun H3 Q1 k3 n3 fin => ?_) (fun r es H' k3 n3 p3 l3 => k r es H' (k12.trans k3) n3 p3 (.inl l3))
              walk_at "r"
              intro t0 ht0
              have dv0 := dp_tupI (K := K) n3 ht0 []
              have n4 := n3.new (o := .tup []) ht0
              have k4 : Keep h H3 (upd H3 t0 (.tup [])) := Keep.new ht0
              change Dp K (hid h (upd H3 t0 (.tup []))) (.ref t0) (.tuple []) at dv0
              generalize upd H3 t0 (.tup []) = H4 at dv0 n4 k4 ⊢
              walk_at "r"
              intro t1 ht1
              have dv1 := dp_tupI (K := K) n4 ht1 [0]
              have n5 := n4.new (o := .tup [V.int 0]) ht1
              have k5 : Keep h H4 (upd H4 t1 (.tup [V.int 0])) := Keep.new ht1
              change Dp K (hid h (upd H4 t1 (.tup [V.int 0]))) (.ref t1) (.tuple [.int 0]) at dv1
              generalize upd H4 t1 (.tup [V.int 0]) = H5 at dv1 n5 k5 ⊢
              walk_at "r"
              intro t3 ht3
              have dv3 := dp_tupI (K := K) n5 ht3 [0, 0, 0]
              have n6 := n5.new (o := .tup [V.int 0, V.int 0, V.int 0]) ht3
              have k6 : Keep h H5 (upd H5 t3 (.tup [V.int 0, V.int 0, V.int 0])) := Keep.new ht3
              change Dp K (hid h (upd H5 t3 (.tup [V.int 0, V.int 0, V.int 0]))) (.ref t3) (.tuple [.int 0, .int 0, .int 0]) at dv3
              generalize upd H5 t3 (.tup [V.int 0, V.int 0, V.int 0]) = H6 at dv3 n6 k6 ⊢
              walk_at "r"
              refine ⟨(by show 6 ≤ sizeLine; decide), fun l0 hl0 => ?_⟩
              walk_at "r"
              refine ⟨h, ha, _, rfl, n6.new hl0, by omega, by omega, fun dd H7 dd0 dd1 k7 n7 _ => ?_⟩
              obtain ⟨ov, eov, mov⟩ := atI_in (xs := [V.non, .int 0, .str "01", .ref t0, .ref t1, .ref t3]) dd0 dd1
              have k67 : Keep h H6 H7 := (Keep.new hl0).trans k7
              have dov : ∃ d, Dp K (hid h H7) ov d ∧ (∀ a b : PyData, d ≠ .tuple [a, b]) ∧ Sh 1 6000 d := by
                simp only [List.mem_cons, List.not_mem_nil, or_false] at mov
                rcases mov with rfl | rfl | rfl | rfl | rfl | rfl
                · exact ⟨.none, .non, (fun _ _ z => nomatch z), by simp [PyData.showable], by simp [PyData.hasDict], by simp [PyData.depth], by simp only [PyData.shown]; decide +kernel⟩
                · exact ⟨_, .int _, (fun _ _ z => nomatch z), (sh_small (by omega) (by omega)).mono (by decide) (by decide)⟩
                · exact ⟨.str "01", .str _, (fun _ _ z => nomatch z), by simp [PyData.showable], by simp [PyData.hasDict], by simp [PyData.depth], by simp only [PyData.shown]; decide +kernel⟩
                · exact ⟨_, Dp.same (k5.trans (k6.trans k67)).hid _ _ dv0, (fun _ _ z => nomatch z), (sh_tuple (n := 0) (k := 1921) fun d hd => by cases hd).mono (by decide) (by decide)⟩
                · exact ⟨_, Dp.same (k6.trans k67).hid _ _ dv1, (fun _ _ z => nomatch z), (sh_tuple (n := 0) (k := 1921) fun d hd => by
                    have e : d = .int 0 := by simpa using hd
                    rw [e]
                    exact sh_small (by omega) (by omega)).mono (by decide) (by decide)⟩
                · exact ⟨_, Dp.same k67.hid _ _ dv3, (fun _ _ z => nomatch z), (sh_tuple (n := 0) (k := 1921) fun d hd => by
                    have e : d = .int 0 := by simpa using hd
                    rw [e]
                    exact sh_small (by omega) (by omega)).mono (by decide) (by decide)⟩
              obtain ⟨od, hod, hno, sod⟩ := dov
              refine ⟨_, _, _, _, rfl, rfl, SqL.of (k7 _ _ upd_same (n6.ne hl0)), eov, ?_⟩
              walk_at "r"
              refine ⟨(by show 1 ≤ sizeLine; decide), fun l hl1 => ?_⟩
              obtain ⟨b1, b2, b3, b4, b5, b6⟩ := one_val n7 hl1 hod (TkP.no fun a b z => hno _ _ z)
              exact fin l _ _ _ (k4.trans (k5.trans (k6.trans (k67.trans b1)))) b2 b3 b4 b5 b6 ⟨fun a b z => absurd z (hno a b), sod⟩
            · walk_at "r"
              refine iteB (fun c5 => ?_) (fun c5 => ?_)
              · walk_at "r"
                intro t ht
                have dv := dp_tupI (K := K) n2 ht [0, 0]
                have tv : TkP (hid h (upd H2 t (.tup [.int 0, .int 0]))) (.ref t) (.tuple [.int 0, .int 0]) := TkP.of (hid_of upd_same (n2.ne ht))
                have n3 := n2.new (o := .tup [V.int 0, V.int 0]) ht
                have k3 : Keep h H2 (upd H2 t (.tup [V.int 0, V.int 0])) := Keep.new ht
                change Dp K (hid h (upd H2 t (.tup [V.int 0, V.int 0]))) (.ref t) (.tuple [.int 0, .int 0]) at dv
                generalize upd H2 t (.tup [V.int 0, V.int 0]) = H3 at dv tv n3 k3 ⊢
                walk_at "r"
                refine ⟨(by show 1 ≤ sizeLine; decide), fun l hl1 => ?_⟩
                have n4 := n3.new (o := .lst [V.ref t]) hl1
                have k4 : Keep h H3 (upd H3 l (.lst [V.ref t])) := Keep.new hl1
                have e4 : upd H3 l (.lst [V.ref t]) l = some (.lst [V.ref t]) := upd_same
                have lh : l ≠ h := n3.ne hl1
                generalize upd H3 l (.lst [V.ref t]) = H4 at n4 k4 e4 ⊢
                walk_at "r"
                intro lc hlc
                have n5 := n4.new (o := .lst [V.int 599, .int 600, .int 601]) hlc
                have k5 : Keep h H4 (upd H4 lc (.lst [V.int 599, .int 600, .int 601])) := Keep.new hlc
                have e5 : upd H4 lc (.lst [V.int 599, .int 600, .int 601]) lc = some (.lst [V.int 599, .int 600, .int 601]) := upd_same
                have lch : lc ≠ h := n4.ne hlc
                generalize upd H4 lc (.lst [V.int 599, .int 600, .int 601]) = H5 at n5 k5 e5 ⊢
                walk_at "r"
                refine ⟨h, ha, _, rfl, n5, by omega, by omega, fun dd H6 dd0 dd1 k6 n6 _ => ?_⟩
                obtain ⟨ov, eov, mov⟩ := atI_in (xs := [V.int 599, .int 600, .int 601]) dd0 dd1
                obtain ⟨kk, rfl, hkk⟩ : ∃ kk : Int, ov = .int kk ∧ 599 ≤ kk ∧ kk ≤ 601 := by
                  simp only [List.mem_cons, List.not_mem_nil, or_false] at mov
                  rcases mov with rfl | rfl | rfl
                  · exact ⟨_, rfl, by omega, by omega⟩
                  · exact ⟨_, rfl, by omega, by omega⟩
                  · exact ⟨_, rfl, by omega, by omega⟩
                have e6 : H6 q = some (.lst ys) := (k3.trans (k4.trans (k5.trans k6))) _ _ e2 qh
                refine ⟨_, _, _, _, rfl, rfl, SqL.of (k6 _ _ e5 lch), eov, ?_⟩
                walk_at "r"
                refine ⟨l, _, _, rfl, rfl, (k5.trans k6) _ _ e4 lh, by omega, by omega, (by show 1 * _ ≤ sizeLine; exact Nat.le_of_lt (Nat.lt_of_le_of_lt (by omega) (by decide : 2002 < sizeLine))), fun p hp => ?_⟩
                have ph : p ≠ h := n6.ne hp
                refine ⟨q, p, _, _, rfl, rfl, Keep.new hp _ _ e6 qh, upd_same, (by rw [rep_len]; exact Nat.le_of_lt (Nat.lt_of_le_of_lt (by omega) (by decide : 2002 < sizeLine))), fun r hr => ?_⟩
                have kp : Keep h H6 (upd (upd H6 p (.lst (List.replicate (kk - (ys.length : Nat)).toNat [V.ref t]).flatten)) r (.lst (ys ++ (List.replicate (kk - (ys.length : Nat)).toNat [V.ref t]).flatten))) := (Keep.new hp).trans (Keep.new hr)
                have k36 := k4.trans (k5.trans (k6.trans kp))
                have kall := k12.trans (k3.trans k36)
                refine k r (ds ++ (List.replicate (kk - (ys.length : Nat)).toNat [PyData.tuple [.int 0, .int 0]]).flatten) _ kall ((n6.new hp).new hr) ⟨⟨_, hid_of upd_same ((n6.new hp).ne hr), (ia.same kall.hid).app (IAll.rep (Dp.same k36.hid _ _ dv) (tv.same k36.hid) _)⟩, fun e hm => ?_⟩ ?_
                · rcases List.mem_append.mp hm with hm | hm
                  · exact pi.ok e hm
                  · rw [rep_mem hm]
                    exact OK2.of (sh_small (by omega) (by omega)) (sh_small (by omega) (by omega))
                · rw [List.length_append, rep_len]
                  omega
              · walk_at "r"
                refine ⟨⟨_, SqL.of e2⟩, fun D hD => lc_list (K := K) (a := q) (xs := ys) (fun j H' => ∃ acc es, Same H2 H' ∧ H' D = some (.lst acc) ∧ IAll K (hid h H2) acc es ∧ (∀ e ∈ es, e ∈ ds) ∧ es.length ≤ j) ⟨[], [], same_new hD, upd_same, .nil, (fun _ z => nomatch z), Nat.le_refl _⟩ (fun j H' _ z => by
                  obtain ⟨_, _, s3, _⟩ := z
                  exact SqL.of (s3 _ _ e2)) ?_ ?_⟩
                · rintro j v H' hx ⟨acc, es, s3, eD, iac, ies, les⟩
                  have hj : j < ds.length := by
                    have := (List.getElem?_eq_some_iff.mp hx).1
                    omega
                  obtain ⟨za, zb, ed⟩ := hd2 _ (List.getElem_mem hj)
                  have dget : ds[j]? = some (.tuple [.int za, .int zb]) := by rw [List.getElem?_eq_getElem hj, ed]
                  have ia2 := ia.same k12.hid
                  obtain ⟨p, rfl, ep⟩ := ia2.tk j _ _ hx dget za zb rfl
                  have ep' := s3 _ _ (hid_same _ _ ep)
                  refine ⟨rfl, ?_⟩
                  walk_at "r"
                  refine ⟨_, _, _, _, rfl, rfl, SqT.of ep', rfl, ?_⟩
                  walk_at "r"
                  refine iteB (fun c => ?_) (fun c => ?_)
                  · refine ⟨_, rfl, acc, eD, Nat.lt_of_le_of_lt (by rw [iac.len]; omega) (by decide : 1002 < sizeLine), acc ++ [.ref p], es ++ [.tuple [.int za, .int zb]], same_mut s3 hD, upd_same, iac.app (.cons (.tup (SqT.of ep) (.cons (.int _) (.cons (.int _) .nil))) (TkP.of ep) .nil), fun e he => ?_, by rw [List.length_append]; show _ + 1 ≤ _; omega⟩
                    rcases List.mem_append.mp he with he | he
                    · exact ies e he
                    · have z : e = .tuple [.int za, .int zb] := by simpa using he
                      rw [z]
                      exact List.mem_of_getElem? dget
                  · exact ⟨acc, es, s3, eD, iac, ies, by omega⟩
                · rintro H' ⟨acc, es, s3, eD, iac, ies, les⟩
                  have k3 := Keep.of_same (h := h) s3
                  have Dh : D ≠ h := n2.ne hD
                  refine k D es H' (k12.trans k3) (n2.same s3) ⟨⟨acc, hid_of eD Dh, iac.same k3.hid⟩, fun e he => pi.ok e (ies e he)⟩ (.inl (by omega))
end
end Z

set_option Elab.async false
set_option linter.all false
set_option maxRecDepth 100000
set_option maxHeartbeats 2100000
namespace Z
open PySem L2
local macro_rules | `(tactic| walk_at "side") => `(tactic| first | omega | (unfold CMul; omega) | (unfold CDiv; omega) | (unfold CDivN; omega) | (unfold CPow; omega) | decide)
local macro_rules | `(tactic| walk_at "lst") => `(tactic| first | exact SqL.of (by assumption) | exact SqL.of upd_same | assumption | exact upd_same)
local macro_rules | `(tactic| walk_at "r1") => `(tactic| first | refine ⟨_, rfl, ?_⟩ | refine ⟨_, _, rfl, rfl, ?_⟩ | refine Or.inl ⟨_, rfl, ?_⟩ | refine And.intro rfl ?_ | refine ⟨_, _, _, _, rfl, rfl, by walk_at "lst", rfl, ?_⟩ | refine ⟨_, _, rfl, Or.inl (by walk_at "lst"), ?_⟩ | refine And.intro (by walk_at "side") ?_)
local macro_rules | `(tactic| walk_at "r") => `(tactic| repeat walk_at "r1")
abbrev s_case : Stmt := top 32
/-- what the law asks with: a number of states, or what is none -/
inductive OddV (H : Hp) : V → PyData → Prop
  | non : OddV H .non .none
  | str : OddV H (.str "01") (.str "01")
  | int : OddV H (.int 5) (.int 5)
  | dk {a : Addr} : H a = some (.dK []) → OddV H (.ref a) (.dict [])
theorem OddV.same {H H' : Hp} {x : V} {p : PyData} (h : OddV H x p) (s : Same H H') : OddV H' x p := by
  cases h with
  | non => exact .non
  | str => exact .str
  | int => exact .int
  | dk h => exact .dk (s _ _ h)
theorem OddV.any {K : PySem.W.Frag} {H : Hp} {x : V} {p : PyData} (h : OddV H x p) : AnyD K H x p ∧ isSeq p = false := by
  cases h with
  | non => exact ⟨.dp .non, rfl⟩
  | str => exact ⟨.dp (.str _), rfl⟩
  | int => exact ⟨.dp (.int _), rfl⟩
  | dk h => exact ⟨.dk h, rfl⟩
def PrV (K : PySem.W.Frag) (H : Hp) (x : V) (p : PyData) : Prop := (∃ q ds, x = .ref q ∧ p = .list ds ∧ PI K H q ds ∧ ds.length ≤ 1000) ∨ OddV H x p
theorem PrV.same {K : PySem.W.Frag} {H H' : Hp} {x : V} {p : PyData} (h : PrV K H x p) (s : Same H H') : PrV K H' x p := by
  rcases h with ⟨q, ds, e1, e2, a, b⟩ | a
  · exact .inl ⟨q, ds, e1, e2, a.same s, b⟩
  · exact .inr (a.same s)
def spCase (K : PySem.W.Frag) : Sp := fun vs H Q _ => ∃ (h ha : Addr), vs = [.ref h] ∧ Hnd H h ha ∧
  ∀ p H' xn xp nd pd, Keep h H H' → Hnd H' h ha → H' p = some (.tup [xn, xp]) → (∀ H0, Dp K H0 xn nd) → PrV K (hid h H') xp pd → Q (.ref p) H'
theorem PrsAt.iall {K : PySem.W.Frag} {H : Hp} : ∀ {as : List Addr} {prs : List (Nat × Nat)}, as.map H = prs.map tpO → IAll K H (as.map V.ref) (prs.map cpD)
  | [], [], _ => .nil
  | a :: as, z :: prs, e => by
    rw [List.map_cons, List.map_cons] at e
    injection e with e1 e2
    exact .cons (.tup (SqT.of e1) (.cons (.int _) (.cons (.int _) .nil))) (TkP.of e1) (PrsAt.iall e2)
  | [], _ :: _, e => by cases e
  | _ :: _, [], e => by cases e
theorem PrsAt.hid {H : Hp} {h ha q : Addr} {as : List Addr} {prs : List (Nat × Nat)} (p : PrsAt H q as prs) (hn : Hnd H h ha) (nq : q ≠ h) : PrsAt (Z.hid h H) q as prs := by
  refine ⟨hid_of p.top nq, map_same p.its fun a ma o e => hid_of e fun z => ?_⟩
  obtain ⟨w, e2⟩ := p.mem ma
  obtain ⟨cs, i, r, t, e1, _⟩ := hn.ex
  rw [z, e1] at e2
  cases e2
section
variable {P : Program} {w : World} {K : PySem.W.Frag} {mg : Str → Option Value} {base : Heap}
theorem sc_case : FnScope ["hand", "pairs", "turn", "way", "n", "below", "pair"] ["hand"] (defScope s_case) := ⟨rfl, rfl, rfl, by decide +kernel, rfl, by decide +kernel, by decide +kernel⟩
theorem ok_case {f : Addr} {fd : FuncData} (F : Fun K "_law_case" "_law_case" s_case f fd) (T : Bl mg) (c_law_draw : Cal P w K mg base CX0 "_law_draw" 2 spDraw) (c_law_order : Cal P w K mg base CX0 "_law_order" 4 (spLOr K)) (c_law_shuffled : Cal P w K mg base CX0 "_law_shuffled" 3 (spShuf K)) (c_law_spoilt : Cal P w K mg base CX0 "_law_spoilt" 3 (spSpoilt K)) : FnOk P w K mg base CX0 5 f fd ["hand"] (spCase K) := by
  refine F.ok sc_case (fun vs H Q E h => ?_) (fun cdv A outer s H vs Q E hr h => ?_)
  · obtain ⟨h, ha, rfl, _⟩ := h
    rfl
  · obtain ⟨h, ha, rfl, hn, k⟩ := h
    refine ⟨_,
      (pss_cons (ps_asg (pe_cal c_law_order (hr.mono (by decide)) (by rfl) (pa_cons (pv 0) (pa_cons (pe_ix (kix_list K) (pe_lst (pa_cons pe_int (pa_cons pe_int (pa_cons pe_int (pa_cons pe_int (pa_cons pe_int (pa_cons pe_int pa_nil))))))) (pe_cal c_law_draw (hr.mono (by decide)) (by rfl) (pa_cons (pv 0) (pa_cons pe_int pa_nil))) (fun _ _ => rfl)) pa_nil))) (pg_tup (by rfl) (pgs_cons (pg_name (i := 4) sc_case.nd rfl (Or.inl rfl)) (pgs_cons (pg_name (i := 1) sc_case.nd rfl (Or.inl rfl)) (pgs_cons (pg_name (i := 5) sc_case.nd rfl (Or.inl rfl)) pgs_nil)))))
      (pss_cons (ps_set (i := 1) sc_case.nd rfl (Or.inl rfl) (pe_cal c_law_shuffled (hr.mono (by decide)) (by rfl) (pa_cons (pv 0) (pa_cons (pv 1) pa_nil))))
      (pss_cons (ps_for PassesOwn.never rfl (pi_range1 (by rfl) T.n_range (pa_cons (pe_cal c_law_draw (hr.mono (by decide)) (by rfl) (pa_cons (pv 0) (pa_cons pe_int pa_nil))) pa_nil)) (pg_name (i := 2) sc_case.nd rfl (Or.inl rfl))
        (pss_one (ps_if (pt_not (kt_truth K (pe_lc (own := [("pair", 6)]) (by rfl) sc_case.nd (kpi_list K (pv 1)) (blkOk_by (own := [("pair", 6)]) (by show blkC ["hand", "pairs", "turn", "way", "n", "below", "pair"] (defScope s_case) _ _ = true; decide +kernel)) (fun _ _ _ _ _ => (pg_name (i := 6) sc_case.nd rfl (Or.inl rfl))) (fun _ _ _ _ _ => (pts_one (PW.pt (pw_or (pt_not (pt_val (pe_callB (kisi K) (by rfl) T.n_isinstance (by decide +kernel) (pa_cons (pv 6) (pa_cons (pe_bltn (v := .ty "tuple") (u := .type "tuple") (by rfl) T.n_tuple (by decide +kernel) rfl) pa_nil))))) (pw_or1 (pt_cmpR op_ne (pe_callB (klen K) (by rfl) T.n_len PySem.boot_len (pa_cons (pv 6) pa_nil)) pe_int (nomark _))))))) (fun _ _ _ _ _ => (pv 6))) (by intro _; rfl)))
          (pss_one (ps_set (i := 1) sc_case.nd rfl (Or.inl rfl) (pe_cal c_law_spoilt (hr.mono (by decide)) (by rfl) (pa_cons (pv 0) (pa_cons (pv 4) (pa_cons (pv 1) pa_nil))))))
          pss_nil)))
      (pss_cons (ps_set (i := 3) sc_case.nd rfl (Or.inl rfl) (pe_cal c_law_draw (hr.mono (by decide)) (by rfl) (pa_cons (pv 0) (pa_cons pe_int pa_nil))))
      (pss_cons (ps_if (pt_cmpR op_eq (pv 3) pe_int (nomark _))
        (pss_one (ps_set (i := 4) sc_case.nd rfl (Or.inl rfl) (pe_ix (kix_list K) (pe_lst (pa_cons pe_int (pa_cons pe_int (pa_cons (pe_un un_neg pe_int) (pa_cons pe_non (pa_cons pe_bl (pa_cons pe_str (pa_cons (pe_op op_pow pe_int pe_int) (pa_cons pe_bl pa_nil))))))))) (pe_cal c_law_draw (hr.mono (by decide)) (by rfl) (pa_cons (pv 0) (pa_cons pe_int pa_nil))) (fun _ _ => rfl))))
        pss_nil)
      (pss_cons (ps_if (pt_cmpR op_eq (pv 3) pe_int (nomark _))
        (pss_one (ps_set (i := 1) sc_case.nd rfl (Or.inl rfl) (pe_ix (kix_list K) (pe_lst (pa_cons pe_non (pa_cons pe_str (pa_cons pe_int (pa_cons pe_dnewK pa_nil))))) (pe_cal c_law_draw (hr.mono (by decide)) (by rfl) (pa_cons (pv 0) (pa_cons pe_int pa_nil))) (fun _ _ => rfl))))
        pss_nil)
      (pss_cons (ps_if (pt_cmpR op_eq (pv 3) pe_int (nomark _))
        (pss_one (ps_par (i := 4) (j := 1) (by rfl) sc_case.nd rfl rfl (by decide) rfl rfl (pa_cons (pe_ix (kix_list K) (pe_lst (pa_cons pe_int (pa_cons pe_non pa_nil))) (pe_cal c_law_draw (hr.mono (by decide)) (by rfl) (pa_cons (pv 0) (pa_cons pe_int pa_nil))) (fun _ _ => rfl)) (pa_cons pe_non pa_nil)) (by rfl)))
        pss_nil)
      (pss_cons (ps_if (pt_cmpR op_eq (pv 3) pe_int (nomark _))
        (pss_one (ps_set (i := 4) sc_case.nd rfl (Or.inl rfl) pe_int))
        pss_nil)
      (pss_one (ps_ret (pe_tup (pa_cons (pv 4) (pa_cons (pv 1) pa_nil)))))))))))))
      , ?_⟩
    walk_at "r"
    intro l0 hl0
    walk_at "r"
    refine ⟨h, ha, _, rfl, hn.new hl0, by omega, by omega, fun d1 H1 d10 d11 k1 n1 _ => ?_⟩
    obtain ⟨ov, eov, mov⟩ := atI_in (xs := [V.int 3, .int 4, .int 5, .int 6, .int 9, .int 24]) d10 d11
    obtain ⟨mm, rfl, hm3, hm24⟩ : ∃ mm : Int, ov = .int mm ∧ 3 ≤ mm ∧ mm ≤ 24 := by
      simp only [List.mem_cons, List.not_mem_nil, or_false] at mov
      rcases mov with rfl | rfl | rfl | rfl | rfl | rfl <;> exact ⟨_, rfl, by omega, by omega⟩
    refine ⟨_, _, _, _, rfl, rfl, SqL.of (k1 _ _ upd_same (hn.ne hl0)), eov, ?_⟩
    refine ⟨h, ha, _, rfl, n1, hm3, hm24, fun p q b as N prs H2 k2 n2 hN2 hN24 hpl hpb ep hprs => ?_⟩
    have kA : Keep h H H2 := (Keep.new hl0).trans (k1.trans k2)
    have qh : q ≠ h := fun z => by
      have e := hprs.top
      obtain ⟨cs, i, r, t, e1, _⟩ := n2.ex
      rw [z, e1] at e
      cases as with
      | nil => cases e
      | cons a as =>
        cases as with
        | nil => cases e
        | cons a2 as => cases e
    have pr2 := hprs.hid n2 qh
    refine ⟨p, _, rfl, SqT.of ep, rfl, _, _, rfl, _, _, rfl, _, _, rfl, rfl, ?_⟩
    walk_at "r"
    have hqk : ∀ H'', Keep h H2 H'' → SqL K H'' q (as.map V.ref) ∨ SqT K H'' q (as.map V.ref) := fun H'' kk => .inl (SqL.of (kk _ _ hprs.top qh))
    refine ⟨h, ha, q, _, rfl, n2, .inl (SqL.of hprs.top), hqk, (by rw [List.length_map, hprs.len]; omega), fun p2 ws H3 pm k3 n3 hp2 ep2 => ?_⟩
    obtain ⟨ds, iws, dpm⟩ := (PrsAt.iall (K := K) pr2.its).perm pm
    have hds : ds.length ≤ 560 := by
      rw [dpm.length_eq, List.length_map]
      omega
    have dok : ∀ d ∈ ds, OK2 d := fun d hd => by
      obtain ⟨z, hz, e⟩ := List.mem_map.mp (dpm.mem_iff.mp hd)
      have hb := hpb z hz
      rw [← e]
      exact OK2.of (sh_small (by omega) (by omega)) (sh_small (by omega) (by omega))
    have p2h : p2 ≠ h := n2.ne hp2
    have pi3 : PI K (hid h H3) p2 ds := ⟨⟨ws, hid_of ep2 p2h, iws.same k3.hid⟩, dok⟩
    have kB := kA.trans k3
    clear iws pm ep hprs pr2 hqk hpb dok dpm eov
    walk_at "r"
    refine ⟨h, ha, _, rfl, n3, by omega, by omega, fun tt H4 t0 t1 k4 n4 _ => ?_⟩
    walk_at "r"
    refine for_range (lo := 0) (n := tt.toNat) (fun i σ H' => ∃ (v2 v6 : Option V) (q : Addr) (ds : List PyData), σ = [some (.ref h), some (.ref q), v2, none, some (.int (N : Nat)), some (.ref b), v6] ∧ Keep h H H' ∧ Hnd H' h ha ∧ PI K (hid h H') q ds ∧ ds.length ≤ 700 + i)
      ⟨none, none, p2, ds, rfl, kB.trans k4, n4, pi3.same k4.hid, by omega⟩ ?_ ?_
    · rintro i σ H5 hi ⟨v2, v6, q5, ds5, rfl, k5, n5, pi5, l5⟩
      obtain ⟨ys, ey, ia⟩ := pi5.ex
      have hyl := ia.len
      have eH := hid_same _ _ ey
      walk_at "r"
      refine ⟨⟨_, SqL.of eH⟩, fun D hD => lc_list (K := K) (a := q5) (xs := ys) (fun j H' => ∃ acc : List V, Same H5 H' ∧ H' D = some (.lst acc) ∧ acc.length ≤ j ∧ (acc = [] → ∀ k, k < j → ∃ a b, ds5[k]? = some (.tuple [a, b]))) ⟨[], same_new hD, upd_same, Nat.le_refl _, fun _ k hk => absurd hk (Nat.not_lt_zero _)⟩ (fun j H' _ z => by
        obtain ⟨_, s6, _⟩ := z
        exact SqL.of (s6 _ _ eH)) ?_ ?_⟩
      · rintro j v H' hx ⟨acc, s6, eD, la, hall⟩
        obtain ⟨d, hd, dz⟩ := DpAll.get ia.dp hx
        have hj : j < ds5.length := (List.getElem?_eq_some_iff.mp hd).1
        have dz' := Dp.same s6 _ _ (Dp.same hid_same _ _ dz)
        have put : ∃ acc, H' D = some (.lst acc) ∧ acc.length < sizeLine ∧ ∃ acc2, Same H5 (upd H' D (.lst (acc ++ [v]))) ∧ upd H' D (.lst (acc ++ [v])) D = some (.lst acc2) ∧ acc2.length ≤ j + 1 ∧ (acc2 = [] → ∀ k, k < j + 1 → ∃ a b, ds5[k]? = some (.tuple [a, b])) :=
          ⟨acc, eD, small1000 (by omega), acc ++ [v], same_mut s6 hD, upd_same, by rw [List.length_append]; show _ + 1 ≤ _; omega, fun z => by simp at z⟩
        refine ⟨rfl, ?_⟩
        walk_at "r"
        refine ⟨_, _, _, _, _, rfl, .ty _, ty_of_dp dz', kit_ty (kb_tuple d), ?_⟩
        refine ⟨_, rfl, ?_⟩
        refine iteB (fun c1 => ?_) (fun c1 => ?_)
        · exact ⟨_, rfl, put⟩
        · cases d with
          | tuple es =>
            cases dz' with
            | tup hq2 ha2 =>
              have hle := DpAll.len ha2
              walk_at "r"
              refine ⟨_, _, rfl, .inr hq2, ?_⟩
              walk_at "r"
              refine iteB (fun c2 => ?_) (fun c2 => ?_)
              · exact ⟨_, rfl, put⟩
              · have l2 := dec_i_t (notF c2)
                obtain ⟨a, b, rfl⟩ := two_of (show es.length = 2 by omega)
                refine ⟨acc, s6, eD, by omega, fun z k hk => ?_⟩
                by_cases hkj : k = j
                · subst hkj
                  exact ⟨a, b, hd⟩
                · exact hall z k (by omega)
          | _ => cases c1
      · rintro H' ⟨acc, s6, eD, la, hall⟩
        have k6 : Keep h H5 H' := Keep.of_same s6
        refine ⟨!acc.isEmpty, .inl ⟨_, SqL.of eD, rfl⟩, ?_⟩
        refine iteB (fun c => ?_) (fun c => ?_)
        · have ea : acc = [] := by
            cases acc with
            | nil => rfl
            | cons _ _ => cases c
          have h2 : ∀ d ∈ ds5, ∃ i j : Int, d = .tuple [.int i, .int j] := fun d hd => by
            obtain ⟨k, hk⟩ := List.getElem?_of_mem hd
            have hkl : k < ys.length := by
              have := (List.getElem?_eq_some_iff.mp hk).1
              omega
            obtain ⟨a, b, e⟩ := hall ea k hkl
            rw [hk] at e
            cases e
            obtain ⟨i, j, rfl, rfl⟩ := (pi5.ok _ hd).1 a b rfl
            exact ⟨i, j, rfl⟩
          walk_at "r"
          refine ⟨h, ha, q5, N, ds5, rfl, n5.same s6, by omega, hN24, pi5.same k6.hid, by omega, h2, fun r es H7 k7 n7 p7 l7 => ?_⟩
          exact ⟨_, _, r, es, rfl, k5.trans (k6.trans k7), n7, p7, by omega⟩
        · exact ⟨_, _, q5, ds5, rfl, k5.trans k6, n5.same s6, pi5.same k6.hid, by omega⟩
    · rintro σ H5 ⟨v2, v6, q5, ds5, rfl, k5, n5, pi5, l5⟩
      walk_at "r"
      refine ⟨h, ha, _, rfl, n5, by omega, by omega, fun way H6 w0 w1 k6 n6 _ => ?_⟩
      have pi6 := pi5.same k6.hid
      have kC := k5.trans k6
      have fin : ∀ (xn xp : V) (nd pd : PyData) (H7 : Hp), Keep h H6 H7 → Hnd H7 h ha → (∀ H0, Dp K H0 xn nd) → PrV K (hid h H7) xp pd → ∀ r, H7 r = none → Q (.ref r) (upd H7 r (.tup [xn, xp])) := fun xn xp nd pd H7 k7 n7 dn pv r hr =>
        k r _ xn xp nd pd (kC.trans (k7.trans (Keep.new hr))) (n7.new hr) upd_same dn (pv.same (Keep.new hr).hid)
      have p6 : PrV K (hid h H6) (.ref q5) (.list ds5) := .inl ⟨q5, ds5, rfl, rfl, pi6, by omega⟩
      by_cases y0 : way = 0
      · subst y0
        walk_at "r"
        intro l hl
        walk_at "r"
        refine ⟨h, ha, _, rfl, n6.new hl, by omega, by omega, fun dd H7 dd0 dd1 k7 n7 _ => ?_⟩
        obtain ⟨xv, exv, mxv⟩ := atI_in (xs := [V.int 0, .int 25, .int (-1), .non, .bl true, .str "3", .int (10 ^ (20 : Int).toNat), .bl false]) dd0 dd1
        have dxv : ∃ d, ∀ H0, Dp K H0 xv d := by
          simp only [List.mem_cons, List.not_mem_nil, or_false] at mxv
          rcases mxv with rfl | rfl | rfl | rfl | rfl | rfl | rfl | rfl
          · exact ⟨_, fun _ => .int _⟩
          · exact ⟨_, fun _ => .int _⟩
          · exact ⟨_, fun _ => .int _⟩
          · exact ⟨_, fun _ => .non⟩
          · exact ⟨_, fun _ => .bl _⟩
          · exact ⟨_, fun _ => .str _⟩
          · exact ⟨_, fun _ => .int _⟩
          · exact ⟨_, fun _ => .bl _⟩
        obtain ⟨xd, hxd⟩ := dxv
        have k67 : Keep h H6 H7 := (Keep.new hl).trans k7
        refine ⟨_, _, _, _, rfl, rfl, SqL.of (k7 _ _ upd_same (n6.ne hl)), exv, ?_⟩
        walk_at "r"
        refine ⟨(by show 2 ≤ sizeLine; decide), fun r hr => ?_⟩
        exact fin _ _ _ _ H7 k67 n7 hxd (p6.same k67.hid) r hr
      by_cases y1 : way = 1
      · subst y1
        walk_at "r"
        intro kd hkd
        have n7 := n6.new (o := .dK []) hkd
        have k7 : Keep h H6 (upd H6 kd (.dK [])) := Keep.new hkd
        have e7 : upd H6 kd (.dK []) kd = some (.dK []) := upd_same
        have kdh : kd ≠ h := n6.ne hkd
        generalize upd H6 kd (.dK []) = H7 at n7 k7 e7 ⊢
        walk_at "r"
        refine ⟨(by show 4 ≤ sizeLine; decide), fun l hl => ?_⟩
        walk_at "r"
        refine ⟨h, ha, _, rfl, n7.new hl, by omega, by omega, fun dd H8 dd0 dd1 k8 n8 _ => ?_⟩
        obtain ⟨xv, exv, mxv⟩ := atI_in (xs := [V.non, .str "01", .int 5, .ref kd]) dd0 dd1
        have k78 : Keep h H7 H8 := (Keep.new hl).trans k8
        have dxv : ∃ d, OddV (hid h H8) xv d := by
          simp only [List.mem_cons, List.not_mem_nil, or_false] at mxv
          rcases mxv with rfl | rfl | rfl | rfl
          · exact ⟨_, .non⟩
          · exact ⟨_, .str⟩
          · exact ⟨_, .int⟩
          · exact ⟨_, .dk (hid_of (k78 _ _ e7 kdh) kdh)⟩
        obtain ⟨xd, hxd⟩ := dxv
        refine ⟨_, _, _, _, rfl, rfl, SqL.of (k8 _ _ upd_same (n7.ne hl)), exv, ?_⟩
        walk_at "r"
        refine ⟨(by show 2 ≤ sizeLine; decide), fun r hr => ?_⟩
        exact fin _ _ _ _ H8 (k7.trans k78) n8 (fun _ => .int _) (.inr hxd) r hr
      by_cases y2 : way = 2
      · subst y2
        walk_at "r"
        intro l hl
        walk_at "r"
        refine ⟨h, ha, _, rfl, n6.new hl, by omega, by omega, fun dd H7 dd0 dd1 k7 n7 _ => ?_⟩
        obtain ⟨xv, exv, mxv⟩ := atI_in (xs := [V.int 0, .non]) dd0 dd1
        have dxv : ∃ d, ∀ H0, Dp K H0 xv d := by
          simp only [List.mem_cons, List.not_mem_nil, or_false] at mxv
          rcases mxv with rfl | rfl
          · exact ⟨_, fun _ => .int _⟩
          · exact ⟨_, fun _ => .non⟩
        obtain ⟨xd, hxd⟩ := dxv
        have k67 : Keep h H6 H7 := (Keep.new hl).trans k7
        refine ⟨_, _, _, _, rfl, rfl, SqL.of (k7 _ _ upd_same (n6.ne hl)), exv, ?_⟩
        walk_at "r"
        refine ⟨_, _, rfl, ?_⟩
        walk_at "r"
        refine ⟨(by show 2 ≤ sizeLine; decide), fun r hr => ?_⟩
        exact fin _ _ _ _ H7 k67 n7 hxd (.inr .non) r hr
      by_cases y3 : way = 3
      · subst y3
        walk_at "r"
        refine ⟨(by show 2 ≤ sizeLine; decide), fun r hr => ?_⟩
        exact fin _ _ _ _ H6 (Keep.refl _ _) n6 (fun _ => .int _) p6 r hr
      walk_at "r"
      refine ifF (dF y0) ?_
      walk_at "r"
      refine ifF (dF y1) ?_
      walk_at "r"
      refine ifF (dF y2) ?_
      walk_at "r"
      refine ifF (dF y3) ?_
      walk_at "r"
      refine ⟨(by show 2 ≤ sizeLine; decide), fun r hr => ?_⟩
      exact fin _ _ _ _ H6 (Keep.refl _ _) n6 (fun _ => .int _) p6 r hr
end
end Z

set_option Elab.async false
set_option linter.all false
set_option maxRecDepth 100000
set_option maxHeartbeats 2100000
namespace Z
open PySem L2
local macro_rules | `(tactic| walk_at "side") => `(tactic| first | omega | (unfold CMul; omega) | (unfold CDiv; omega) | (unfold CDivN; omega) | (unfold CPow; omega) | decide)
local macro_rules | `(tactic| walk_at "lst") => `(tactic| first | exact SqL.of (by assumption) | exact SqL.of upd_same | assumption | exact upd_same)
local macro_rules | `(tactic| walk_at "r1") => `(tactic| first | refine ⟨_, rfl, ?_⟩ | refine ⟨_, _, rfl, rfl, ?_⟩ | refine Or.inl ⟨_, rfl, ?_⟩ | refine And.intro rfl ?_ | refine ⟨_, _, _, _, rfl, rfl, by walk_at "lst", rfl, ?_⟩ | refine ⟨_, _, rfl, Or.inl (by walk_at "lst"), ?_⟩ | refine And.intro (by walk_at "side") ?_)
local macro_rules | `(tactic| walk_at "r") => `(tactic| repeat walk_at "r1")
abbrev s_wholes : Stmt := top 33
/-- is_whole, called with one, two and three values, and by its two keywords -/
structure CalW (P : Program) (w : World) (K : PySem.W.Frag) (mg : Str → Option Value) (base : Heap) (f : Addr) (fd : FuncData) : Prop where
  g : mg "is_whole" = some (.ref f)
  kp : PySem.W.keepIn K (.ref f) = true
  ok : FnOk P w K mg base CX0 1 f fd ["thing", "low", "high"] (spWhole K)
  b1 : ∃ ds, Vals [V.non, V.non] ds ∧ Binds K fd ["thing", "low", "high"] ds
  b2 : ∃ ds, Vals [V.non] ds ∧ Binds K fd ["thing", "low", "high"] ds
  b3 : Binds K fd ["thing", "low", "high"] []
  kh : ∃ its : List Value, KBn K fd ["thing", "low", "high"] 1 ["high"] (fun us ws => us ++ (its.take 1 ++ ws)) (fun vs zs => vs ++ (([V.non, V.non] : List V).take 1 ++ zs))
  kb : ∃ its : List Value, KBn K fd ["thing", "low", "high"] 1 ["low", "high"] (fun us ws => us ++ (its.take 0 ++ ws)) (fun vs zs => vs ++ (([V.non, V.non] : List V).take 0 ++ zs))
theorem len1 {α : Type} {l : List α} (h : l.length = 1) : ∃ a, l = [a] := by
  match l, h with
  | [a], _ => exact ⟨a, rfl⟩
theorem len3 {α : Type} {l : List α} (h : l.length = 3) : ∃ a b c, l = [a, b, c] := by
  match l, h with
  | [a, b, c], _ => exact ⟨a, b, c, rfl⟩
theorem vals_take {vs : List V} {us : List Value} (r : Vals vs us) : ∀ n : Nat, Vals (vs.take n) (us.take n) := fun n => by
  induction n generalizing vs us with
  | zero => exact .nil
  | succ n ih =>
    cases r with
    | nil => exact .nil
    | cons a b => exact .cons a (ih b)
section
variable {P : Program} {w : World} {K : PySem.W.Frag} {mg : Str → Option Value} {base : Heap}
theorem calw {f : Addr} {fd : FuncData} (F : FunD K "is_whole" "is_whole" (defArgs s_whole) (defBody s_whole) (defScope s_whole) [.non, .non] [] f fd) (G : FnOk P w K mg base CX0 1 f fd ["thing", "low", "high"] (spWhole K)) (g : mg "is_whole" = some (.ref f)) (kp : PySem.W.keepIn K (.ref f) = true) : CalW P w K mg base f fd where
  g := g
  kp := kp
  ok := G
  b1 := F.binds1 1 0 (by simp) rfl fun T kV doc pm an cdv ct us its h1 h2 => by
    obtain ⟨a, rfl⟩ := len1 h1
    obtain ⟨x, y, rfl⟩ := two_of h2
    exact ⟨_, rfl, rfl⟩
  b2 := F.binds1 2 1 (by simp) rfl fun T kV doc pm an cdv ct us its h1 h2 => by
    obtain ⟨a, b, rfl⟩ := two_of h1
    obtain ⟨x, y, rfl⟩ := two_of h2
    exact ⟨_, rfl, rfl⟩
  b3 := by
    obtain ⟨ds, hv, hb⟩ := F.binds1 (ps := ["thing", "low", "high"]) 3 2 (by simp) rfl fun T kV doc pm an cdv ct us its h1 h2 => by
      obtain ⟨a, b, c, rfl⟩ := len3 h1
      obtain ⟨x, y, rfl⟩ := two_of h2
      exact ⟨_, rfl, rfl⟩
    cases hv
    exact hb
  kh := F.kbindsD (ps := ["thing", "low", "high"]) 1 ["high"] (fun us its ws => us ++ (its.take 1 ++ ws)) (by simp) (fun r1 r2 r3 => r1.append ((vals_take r2 1).append r3)) fun T kV doc pm an cdv ct us its ws h1 h2 h3 => by
    obtain ⟨a, rfl⟩ := len1 h1
    obtain ⟨x, y, rfl⟩ := two_of h2
    obtain ⟨z, rfl⟩ := len1 h3
    exact ⟨_, rfl, rfl⟩
  kb := F.kbindsD (ps := ["thing", "low", "high"]) 1 ["low", "high"] (fun us its ws => us ++ (its.take 0 ++ ws)) (by simp) (fun r1 r2 r3 => r1.append ((vals_take r2 0).append r3)) fun T kV doc pm an cdv ct us its ws h1 h2 h3 => by
    obtain ⟨a, rfl⟩ := len1 h1
    obtain ⟨x, y, rfl⟩ := two_of h2
    obtain ⟨z, z2, rfl⟩ := two_of h3
    exact ⟨_, rfl, rfl⟩
section
variable {σ : L2.St} {H : Hp} {Q : VK} {v : V} {d : PyData} {i j a b : Nat} {lo hi : Int}
theorem te_plain (hv : σ[i]? = some (some v)) (dv : Dp K H v d) (k : Q (.bl (whole d none none)) H) :
    tAndV (tCB (rIsi K) (tCons (tVar i) (tCons (tC (V.ty "int")) tNil))) (tNotV (tCB (rIsi K) (tCons (tVar i) (tCons (tC (V.ty "bool")) tNil)))) σ H Q := by
  refine ⟨_, hv, _, _, _, _, _, rfl, .ty _, ty_of_dp dv, kit_ty (kb_int d), _, rfl, ?_⟩
  cases d with
  | bool b => exact ⟨_, hv, _, _, _, _, _, rfl, .ty _, ty_of_dp dv, kit_ty (kb_bool (.bool b)), _, rfl, k⟩
  | int z => exact ⟨_, hv, _, _, _, _, _, rfl, .ty _, ty_of_dp dv, kit_ty (kb_bool (.int z)), _, rfl, k⟩
  | none => exact k
  | str _ => exact k
  | list _ => exact k
  | tuple _ => exact k
  | dict _ => exact k
theorem te_pge (hv : σ[i]? = some (some v)) (hj : σ[j]? = some (some (.bl (whole d none none)))) (ha : σ[a]? = some (some (.int lo))) (dv : Dp K H v d) (k : Q (.bl (whole d (some lo) none)) H) :
    tAndV (tVar j) (tOp (rI0 fun i j => V.bl (decide (j ≤ i))) (tVar i) (tVar a)) σ H Q := by
  refine ⟨_, hj, _, rfl, ?_⟩
  cases d with
  | int z =>
    cases dv
    refine ⟨_, hv, _, ha, _, _, rfl, rfl, ?_⟩
    have e : whole (.int z) (some lo) none = decide (lo ≤ z) := by simp [whole]
    rw [e] at k
    exact k
  | _ => exact k
theorem te_ple (hv : σ[i]? = some (some v)) (hj : σ[j]? = some (some (.bl (whole d none none)))) (ha : σ[a]? = some (some (.int hi))) (dv : Dp K H v d) (k : Q (.bl (whole d none (some hi))) H) :
    tAndV (tVar j) (tOp (rI0 fun i j => V.bl (decide (i ≤ j))) (tVar i) (tVar a)) σ H Q := by
  refine ⟨_, hj, _, rfl, ?_⟩
  cases d with
  | int z =>
    cases dv
    refine ⟨_, hv, _, ha, _, _, rfl, rfl, ?_⟩
    have e : whole (.int z) none (some hi) = decide (z ≤ hi) := by simp [whole]
    rw [e] at k
    exact k
  | _ => exact k
theorem te_pch (hv : σ[i]? = some (some v)) (hj : σ[j]? = some (some (.bl (whole d none none)))) (ha : σ[a]? = some (some (.int lo))) (hb : σ[b]? = some (some (.int hi))) (dv : Dp K H v d) (k : Q (.bl (whole d (some lo) (some hi))) H) :
    tAndV (tVar j) (tChain (rI0 fun i j => V.bl (decide (i ≤ j))) (rI0 fun i j => V.bl (decide (i ≤ j))) (tVar a) (tVar i) (tVar b)) σ H Q := by
  refine ⟨_, hj, _, rfl, ?_⟩
  cases d with
  | int z =>
    cases dv
    refine ⟨_, ha, _, hv, _, _, rfl, rfl, _, rfl, ?_⟩
    refine iteB (fun c => ?_) (fun c => ?_)
    · refine ⟨_, hb, _, _, rfl, rfl, ?_⟩
      have e : whole (.int z) (some lo) (some hi) = decide (z ≤ hi) := by
        simp only [whole]
        rw [c, Bool.true_and]
      rw [e] at k
      exact k
    · have e : whole (.int z) (some lo) (some hi) = false := by
        simp only [whole]
        rw [c, Bool.false_and]
      rw [e] at k
      exact k
  | _ => exact k
end
theorem sc_wholes : FnScope ["hand", "low", "high", "thing", "told", "plain"] ["hand"] (defScope s_wholes) := ⟨rfl, rfl, rfl, by decide +kernel, rfl, by decide +kernel, by decide +kernel⟩
def spWholes : Sp := fun vs H Q _ => ∃ (h ha : Addr), vs = [.ref h] ∧ Hnd H h ha ∧ ∀ H', Keep h H H' → Hnd H' h ha → Q (.bl true) H'
theorem ok_wholes {f fw : Addr} {fd fdw : FuncData} (F : Fun K "_law_wholes" "_law_wholes" s_wholes f fd) (T : Bl mg) (CW : CalW P w K mg base fw fdw) (c_law_draw : Cal P w K mg base CX0 "_law_draw" 2 spDraw) (c_law_exact : Cal P w K mg base CX0 "_law_exact" 3 (spEx K (lift (lift fun _ => false)))) (cis_sequence : Cal P w K mg base CX0 "is_sequence" 1 (spSeq K)) :
    FnOk P w K mg base CX0 4 f fd ["hand"] spWholes := by
  refine F.ok sc_wholes (fun vs H Q E h => ?_) (fun cdv A outer s H vs Q E hr h => ?_)
  · obtain ⟨h, ha, rfl, _⟩ := h
    rfl
  · obtain ⟨h, ha, rfl, hn, k⟩ := h
    obtain ⟨ds1, vd1, bd1⟩ := CW.b1
    obtain ⟨ds2, vd2, bd2⟩ := CW.b2
    obtain ⟨ih, kh⟩ := CW.kh
    obtain ⟨ib, kb⟩ := CW.kb
    refine ⟨_,
      (pss_cons (ps_set (i := 1) sc_wholes.nd rfl (Or.inl rfl) (pe_op op_sub (pe_cal c_law_draw (hr.mono (by decide)) (by rfl) (pa_cons (pv 0) (pa_cons pe_int pa_nil))) pe_int))
      (pss_cons (ps_set (i := 2) sc_wholes.nd rfl (Or.inl rfl) (pe_op op_add (pv 1) (pe_cal c_law_draw (hr.mono (by decide)) (by rfl) (pa_cons (pv 0) (pa_cons pe_int pa_nil)))))
      (pss_cons (ps_for PassesOwn.never rfl (kpi_list K (pe_lst (pa_cons (pe_op op_sub (pv 1) pe_int) (pa_cons (pv 1) (pa_cons (pv 2) (pa_cons (pe_op op_add (pv 2) pe_int) (pa_cons pe_int (pa_cons pe_bl (pa_cons pe_bl (pa_cons pe_non (pa_cons pe_str (pa_cons (pe_lst (pa_cons (pv 1) pa_nil)) (pa_cons (pe_op op_pow pe_int pe_int) (pa_cons (pe_un un_neg (pe_op op_pow pe_int pe_int)) pa_nil)))))))))))))) (pg_name (i := 3) sc_wholes.nd rfl (Or.inl rfl))
        (pss_cons (ps_set (i := 5) sc_wholes.nd rfl (Or.inl rfl) (pe_and (pe_callB (kisi K) (by rfl) T.n_isinstance (by decide +kernel) (pa_cons (pv 3) (pa_cons (pe_bltn (v := .ty "int") (u := .type "int") (by rfl) T.n_int (by decide +kernel) rfl) pa_nil))) (pe_one (pe_not (pe_callB (kisi K) (by rfl) T.n_isinstance (by decide +kernel) (pa_cons (pv 3) (pa_cons (pe_bltn (v := .ty "bool") (u := .type "bool") (by rfl) T.n_bool (by decide +kernel) rfl) pa_nil)))))))
        (pss_cons (ps_if (PW.pt (pw_or (pt_not (pt_val (pe_cal c_law_exact (hr.mono (by decide)) (by rfl) (pa_cons (pe_call CW.ok (hr.mono (by decide)) (by rfl) CW.g CW.kp bd1 vd1 pass0 (pa_cons (pv 3) pa_nil)) (pa_cons (pv 5) pa_nil))))) (pw_or1 (pt_not (pt_val (pe_cal c_law_exact (hr.mono (by decide)) (by rfl) (pa_cons (pe_call CW.ok (hr.mono (by decide)) (by rfl) CW.g CW.kp bd2 vd2 pass0 (pa_cons (pv 3) (pa_cons (pv 1) pa_nil))) (pa_cons (pe_and (pv 5) (pe_one (pe_cmpR op_ge (pv 3) (pv 1) (nomark _)))) pa_nil))))))))
          (pss_one (ps_ret pe_bl))
          pss_nil)
        (pss_cons (ps_if (pt_not (pt_val (pe_cal c_law_exact (hr.mono (by decide)) (by rfl) (pa_cons (pe_callN CW.ok (hr.mono (by decide)) (by rfl) CW.g CW.kp kh pass0 (pa_cons (pv 3) pa_nil) (pk_cons (pv 2) pk_nil)) (pa_cons (pe_and (pv 5) (pe_one (pe_cmpR op_le (pv 3) (pv 2) (nomark _)))) pa_nil)))))
          (pss_one (ps_ret pe_bl))
          pss_nil)
        (pss_one (ps_if (pt_not (pt_val (pe_cal c_law_exact (hr.mono (by decide)) (by rfl) (pa_cons (pe_callN CW.ok (hr.mono (by decide)) (by rfl) CW.g CW.kp kb pass0 (pa_cons (pv 3) pa_nil) (pk_cons (pv 1) (pk_cons (pv 2) pk_nil))) (pa_cons (pe_and (pv 5) (pe_one (pe_chain op_le op_le (pv 1) (pv 3) (pv 2)))) pa_nil)))))
          (pss_one (ps_ret pe_bl))
          pss_nil))))))
      (pss_cons (ps_setLc (i := 4) (own := [("thing", 3)]) (by rfl) sc_wholes.nd rfl rfl (sw_true rfl rfl rfl (by decide +kernel)) (kpi_list K (pe_lst (pa_cons (pe_tup pa_nil) (pa_cons (pe_lst pa_nil) (pa_cons (pe_lst (pa_cons pe_int pa_nil)) (pa_cons (pe_tup (pa_cons pe_int (pa_cons pe_int pa_nil))) (pa_cons pe_str (pa_cons pe_dnewK (pa_cons pe_non (pa_cons pe_int (pa_cons pe_bl pa_nil))))))))))) (blkOk_by (own := [("thing", 3)]) (by show blkC ["hand", "low", "high", "thing", "told", "plain"] (defScope s_wholes) _ _ = true; decide +kernel)) (fun _ _ _ _ _ => (pg_name (i := 3) sc_wholes.nd rfl (Or.inl rfl))) (fun _ _ _ _ _ => pts_nil) (fun _ _ _ _ _ => (pe_cal cis_sequence (hr.mono (by decide)) (by rfl) (pa_cons (pv 3) pa_nil))))
      (pss_one (ps_ret (pe_cal c_law_exact (hr.mono (by decide)) (by rfl) (pa_cons (pe_callTy (ktuple_of K) (by rfl) T.n_tuple (by decide +kernel) (pa_cons (pv 4) pa_nil)) (pa_cons (pe_tup (pa_cons pe_bl (pa_cons pe_bl (pa_cons pe_bl (pa_cons pe_bl (pa_cons pe_bl (pa_cons pe_bl (pa_cons pe_bl (pa_cons pe_bl (pa_cons pe_bl pa_nil)))))))))) pa_nil)))))))))
      , ?_⟩
    walk_at "r"
    refine ⟨h, ha, _, rfl, hn, by omega, by omega, fun d1 H1 d10 d11 k1 n1 _ => ?_⟩
    walk_at "r"
    refine ⟨h, ha, _, rfl, n1, by omega, by omega, fun d2 H2 d20 d21 k2 n2 _ => ?_⟩
    walk_at "r"
    refine ⟨(by show 1 ≤ sizeLine; decide), fun lt hlt => ?_⟩
    have n3 := n2.new (o := .lst [V.int (d1 - 4)]) hlt
    have k3 : Keep h H2 (upd H2 lt (.lst [V.int (d1 - 4)])) := Keep.new hlt
    have e3 : upd H2 lt (.lst [V.int (d1 - 4)]) lt = some (.lst [V.int (d1 - 4)]) := upd_same
    generalize upd H2 lt (.lst [V.int (d1 - 4)]) = H3 at n3 k3 e3 ⊢
    walk_at "r"
    refine ⟨(by show 12 ≤ sizeLine; decide), fun l hl => ?_⟩
    generalize hxs : [V.int (d1 - 4 - 1), V.int (d1 - 4), V.int (d1 - 4 + d2), V.int (d1 - 4 + d2 + 1), V.int 0, V.bl true, V.bl false, V.non, V.str "1", V.ref lt, V.int (10 ^ (30 : Int).toNat), V.int (-(10 ^ (30 : Int).toNat))] = xs
    have n4 := n3.new (o := .lst xs) hl
    have k4 : Keep h H3 (upd H3 l (.lst xs)) := Keep.new hl
    have e4 : upd H3 l (.lst xs) l = some (.lst xs) := upd_same
    have e34 := k4 _ _ e3 (n2.ne hlt)
    generalize upd H3 l (.lst xs) = H4 at n4 k4 e4 e34 ⊢
    have dxs : ∀ v ∈ xs, ∃ d, Dp K H4 v d := fun v hv => by
      rw [← hxs] at hv
      simp only [List.mem_cons, List.not_mem_nil, or_false] at hv
      rcases hv with rfl | rfl | rfl | rfl | rfl | rfl | rfl | rfl | rfl | rfl | rfl | rfl
      · exact ⟨_, .int _⟩
      · exact ⟨_, .int _⟩
      · exact ⟨_, .int _⟩
      · exact ⟨_, .int _⟩
      · exact ⟨_, .int _⟩
      · exact ⟨_, .bl _⟩
      · exact ⟨_, .bl _⟩
      · exact ⟨_, .non⟩
      · exact ⟨_, .str _⟩
      · exact ⟨_, .lst (SqL.of e34) (.cons (.int _) .nil)⟩
      · exact ⟨_, .int _⟩
      · exact ⟨_, .int _⟩
    have kA := k1.trans (k2.trans (k3.trans k4))
    clear hxs
    refine ⟨l, rfl, ⟨_, SqL.of e4⟩, for_list (K := K) (a := l) (xs := xs) (fun i σ H' => ∃ v3 v5 : Option V, σ = [some (.ref h), some (.int (d1 - 4)), some (.int (d1 - 4 + d2)), v3, none, v5] ∧ Same H4 H') ⟨none, none, rfl, Same.refl _⟩ (fun i σ H' _ z => by
      obtain ⟨_, _, _, s5⟩ := z
      exact SqL.of (s5 _ _ e4)) ?_ ?_⟩
    · rintro i v σ H5 hv ⟨v3, v5, rfl, s5⟩
      obtain ⟨d, dz⟩ := dxs v (List.mem_of_getElem? hv)
      have d5 := Dp.same s5 _ _ dz
      have yes : ∀ b : Bool, lift (lift fun _ => false) (.bool b) = true := fun _ => rfl
      refine te_plain (K := K) (d := d) rfl d5 ?_
      walk_at "r"
      refine ⟨_, d, none, none, rfl, d5, ?_⟩
      walk_at "r"
      refine ⟨_, _, _, rfl, .bl _, .bl _, yes _, fun H6 s6 => ⟨_, rfl, ?_⟩⟩
      have d6 := Dp.same s6 _ _ d5
      walk_at "r"
      refine ⟨_, d, some _, none, rfl, d6, ?_⟩
      refine te_pge (d := d) rfl rfl rfl d6 ?_
      walk_at "r"
      refine ⟨_, _, _, rfl, .bl _, .bl _, yes _, fun H7 s7 => ⟨_, rfl, ?_⟩⟩
      have d7 := Dp.same s7 _ _ d6
      walk_at "r"
      refine ⟨_, d, none, some _, rfl, d7, ?_⟩
      refine te_ple (d := d) rfl rfl rfl d7 ?_
      walk_at "r"
      refine ⟨_, _, _, rfl, .bl _, .bl _, yes _, fun H8 s8 => ⟨_, rfl, ?_⟩⟩
      have d8 := Dp.same s8 _ _ d7
      walk_at "r"
      refine ⟨_, d, some _, some _, rfl, d8, ?_⟩
      refine te_pch (d := d) rfl rfl rfl rfl d8 ?_
      walk_at "r"
      refine ⟨_, _, _, rfl, .bl _, .bl _, yes _, fun H9 s9 => ⟨_, rfl, ?_⟩⟩
      exact ⟨_, _, rfl, s5.trans (s6.trans (s7.trans (s8.trans s9)))⟩
    · rintro σ H5 ⟨v3, v5, rfl, s5⟩
      walk_at "r"
      have n5 := n4.same s5
      have k5 : Keep h H H5 := kA.trans (Keep.of_same s5)
      clear dxs e34 e4 n4 s5 kA
      intro a0 h0
      have d0 : Dp K (upd H5 a0 (.tup [])) (.ref a0) (.tuple []) := .tup (SqT.of upd_same) .nil
      have s1 : Same H5 (upd H5 a0 (.tup [])) := same_new h0
      generalize upd H5 a0 (.tup []) = G1 at d0 s1 ⊢
      walk_at "r"
      intro a1 h1
      have q1 : Dp K (upd G1 a1 (.lst [])) (.ref a1) (.list []) := .lst (SqL.of upd_same) .nil
      have s2 : Same G1 (upd G1 a1 (.lst [])) := same_new h1
      generalize upd G1 a1 (.lst []) = G2 at q1 s2 ⊢
      walk_at "r"
      intro a2 h2
      have q2 : Dp K (upd G2 a2 (.lst [.int 0])) (.ref a2) (.list [.int 0]) := .lst (SqL.of upd_same) (.cons (.int _) .nil)
      have s3 : Same G2 (upd G2 a2 (.lst [.int 0])) := same_new h2
      generalize upd G2 a2 (.lst [.int 0]) = G3 at q2 s3 ⊢
      walk_at "r"
      intro a3 h3
      have q3 : Dp K (upd G3 a3 (.tup [.int 0, .int 1])) (.ref a3) (.tuple [.int 0, .int 1]) := .tup (SqT.of upd_same) (.cons (.int _) (.cons (.int _) .nil))
      have s4 : Same G3 (upd G3 a3 (.tup [.int 0, .int 1])) := same_new h3
      generalize upd G3 a3 (.tup [.int 0, .int 1]) = G4 at q3 s4 ⊢
      walk_at "r"
      intro a4 h4
      have q4 : AnyD K (upd G4 a4 (.dK [])) (.ref a4) (.dict []) := .dk upd_same
      have s5 : Same G4 (upd G4 a4 (.dK [])) := same_new h4
      generalize upd G4 a4 (.dK []) = G5 at q4 s5 ⊢
      walk_at "r"
      refine ⟨(by show 9 ≤ sizeLine; decide), fun l2 hl2 => ?_⟩
      have e2 : upd G5 l2 (.lst [V.ref a0, .ref a1, .ref a2, .ref a3, .str "01", .ref a4, .non, .int 5, .bl true]) l2 = some (.lst [V.ref a0, .ref a1, .ref a2, .ref a3, .str "01", .ref a4, .non, .int 5, .bl true]) := upd_same
      have s6 : Same G5 (upd G5 l2 (.lst [V.ref a0, .ref a1, .ref a2, .ref a3, .str "01", .ref a4, .non, .int 5, .bl true])) := same_new hl2
      generalize upd G5 l2 (.lst [V.ref a0, .ref a1, .ref a2, .ref a3, .str "01", .ref a4, .non, .int 5, .bl true]) = G6 at e2 s6 ⊢
      have its : ∀ (i : Nat) v, ([V.ref a0, .ref a1, .ref a2, .ref a3, .str "01", .ref a4, .non, .int 5, .bl true] : List V)[i]? = some v → ∃ d, ([.tuple [], .list [], .list [.int 0], .tuple [.int 0, .int 1], .str "01", .dict [], .none, .int 5, .bool true] : List PyData)[i]? = some d ∧ AnyD K G6 v d := fun i v hv => by
        match i, hv with
        | 0, hv => cases hv; exact ⟨_, rfl, .dp (Dp.same (s2.trans (s3.trans (s4.trans (s5.trans s6)))) _ _ d0)⟩
        | 1, hv => cases hv; exact ⟨_, rfl, .dp (Dp.same (s3.trans (s4.trans (s5.trans s6))) _ _ q1)⟩
        | 2, hv => cases hv; exact ⟨_, rfl, .dp (Dp.same (s4.trans (s5.trans s6)) _ _ q2)⟩
        | 3, hv => cases hv; exact ⟨_, rfl, .dp (Dp.same (s5.trans s6) _ _ q3)⟩
        | 4, hv => cases hv; exact ⟨_, rfl, .dp (.str _)⟩
        | 5, hv => cases hv; exact ⟨_, rfl, q4.same s6⟩
        | 6, hv => cases hv; exact ⟨_, rfl, .dp .non⟩
        | 7, hv => cases hv; exact ⟨_, rfl, .dp (.int _)⟩
        | 8, hv => cases hv; exact ⟨_, rfl, .dp (.bl _)⟩
        | n + 9, hv => simp at hv
      have k6 : Keep h H5 G6 := Keep.of_same (s1.trans (s2.trans (s3.trans (s4.trans (s5.trans s6)))))
      have n6 : Hnd G6 h ha := n5.same (s1.trans (s2.trans (s3.trans (s4.trans (s5.trans s6)))))
      clear d0 q1 q2 q3 q4 s1 s2 s3 s4 s5 s6
      refine ⟨l2, rfl, ⟨_, SqL.of e2⟩, fun D hD => ?_⟩
      generalize hys : [V.ref a0, .ref a1, .ref a2, .ref a3, .str "01", .ref a4, .non, .int 5, .bl true] = ys at its e2
      generalize hds : ([.tuple [], .list [], .list [.int 0], .tuple [.int 0, .int 1], .str "01", .dict [], .none, .int 5, .bool true] : List PyData) = ds at its
      refine lc_list (K := K) (a := l2) (xs := ys) (fun j H' => Same G6 H' ∧ H' D = some (.lst ((ds.take j).map fun d => V.bl (isSeq d)))) ⟨same_new hD, upd_same⟩ (fun j H' _ z => SqL.of (z.1 _ _ e2)) ?_ ?_
      · rintro j v H' hv ⟨s7, e7⟩
        obtain ⟨d, hd, dv⟩ := its j v hv
        refine ⟨rfl, ?_⟩
        walk_at "r"
        refine ⟨_, d, rfl, dv.same s7, fun H8 s8 => ?_⟩
        refine ⟨_, s8 _ _ e7, small1000 (by rw [List.length_map, List.length_take, ← hds]; show min j 9 ≤ 1000; omega), same_mut (s7.trans s8) hD, ?_⟩
        rw [upd_same, List.take_add_one, hd, List.map_append]
        rfl
      · rintro H' ⟨s7, e7⟩
        have e8 : (ds.take ys.length).map (fun d => V.bl (isSeq d)) = [V.bl true, .bl true, .bl true, .bl true, .bl false, .bl false, .bl false, .bl false, .bl false] := by
          rw [← hds, ← hys]
          rfl
        rw [e8] at e7
        walk_at "r"
        refine ⟨D, _, rfl, .inl ⟨SqL.of e7, fun tt htt => ?_⟩⟩
        have s8 : Same H' (upd H' tt (.tup [V.bl true, .bl true, .bl true, .bl true, .bl false, .bl false, .bl false, .bl false, .bl false])) := same_new htt
        have e9 : upd H' tt (.tup [V.bl true, .bl true, .bl true, .bl true, .bl false, .bl false, .bl false, .bl false, .bl false]) tt = some (.tup [V.bl true, .bl true, .bl true, .bl true, .bl false, .bl false, .bl false, .bl false, .bl false]) := upd_same
        generalize upd H' tt (.tup [V.bl true, .bl true, .bl true, .bl true, .bl false, .bl false, .bl false, .bl false, .bl false]) = H8 at s8 e9 ⊢
        walk_at "r"
        intro t2 ht2
        have all9 : ∀ H0, DpAll K H0 [V.bl true, .bl true, .bl true, .bl true, .bl false, .bl false, .bl false, .bl false, .bl false] [.bool true, .bool true, .bool true, .bool true, .bool false, .bool false, .bool false, .bool false, .bool false] := fun _ =>
          .cons (.bl _) (.cons (.bl _) (.cons (.bl _) (.cons (.bl _) (.cons (.bl _) (.cons (.bl _) (.cons (.bl _) (.cons (.bl _) (.cons (.bl _) .nil))))))))
        refine ⟨_, _, _, rfl, .tup (SqT.of (same_new ht2 _ _ e9)) (all9 _), .tup (SqT.of upd_same) (all9 _), by decide, fun H9 s9 => ?_⟩
        have sAll := s7.trans (s8.trans ((same_new ht2).trans s9))
        exact k _ (k5.trans (k6.trans (Keep.of_same sAll))) (n6.same sAll)
end
end Z

set_option Elab.async false
set_option linter.all false
set_option maxRecDepth 100000
set_option maxHeartbeats 2100000
namespace Z
open PySem L2
open PySem.Spec PyProof.Rows
/-! ### the law's own def, called where no text is being made of an object that holds itself -/
def RunAt (P : Program) (w : World) (K : PySem.W.Frag) (mg : Str → Option Value) (base : Heap) (fa : Addr) (fd : FuncData) (ps : List Str) (sp : Sp) : Prop :=
  ∀ (s : Shared) (H : Hp) (args : Args) (us : List Value) (vs : List V) (Q : VK) (E : XK), Env0 P w K mg base callerA [] s H → BindsTo s fd args (ps.zip us) → Vals vs us → sp vs H Q E → codeAny (model P w) callerA (.call (.ref fa) args) (CR CX0 [] P w H s Q E) s
/-- the heap H says nothing but of the script: the run from there -/
theorem run_head {P : Program} {w : World} {K : PySem.W.Frag} {mg mb : Str → Option Value} {fa sc : Addr} {fd : FuncData} {x : Str} {sp : Sp} {st : Shared} {us : List Value} {H : Hp}
    (inK : K.In st.heap) (globs : st.heap.Ns mainGlobals mg) (bns : st.heap.Ns builtinsNs mb) (same : ∀ y : Str, y ≠ "__name__" → mb y = bootBuiltins y) (nolim : st.heap.NoLimit) (nogen : st.gens = #[])
    (here : st.heap.get? sc = some { cls := .type "list", data := .seq us.toArray }) (F : ∀ base : Heap, K.In base → base.Ns mainGlobals mg → RunAt P w K mg base fa fd [x] sp) (binds : ∀ (s : Shared) (v : Value), BindsTo s fd ⟨[v], []⟩ [(x, v)])
    (want : sp [.ref sc] H (fun v _ => v = .bl true) fun _ _ _ => False) (only : Only H) (hok : HOk P w H st.heap) (just : ∀ b, H b ≠ none → b = sc) (apart : H sc ≠ none → K.lookup sc = none) :
    codeAny (model P w) callerA (.call (.ref fa) ⟨[.ref sc], []⟩) (fun res s2 => res = .ok (.ret (.bool true)) ∧ OldK st.heap s2.heap ∧ s2.os = st.os ∧ AllBare s2.gens) st := by
  have none_of : ∀ {b : Addr} {o : Obj}, st.heap.get? b = some o → (H b ≠ none → st.heap.get? sc = some o → False) → H b = none := fun {b o} got no => by
    by_cases hb : H b = none
    · exact hb
    · have eb := just b hb
      subst eb
      exact absurd got fun got => no hb got
  have nsH : ∀ {b : Addr} {m : Str → Option Value}, st.heap.Ns b m → (hidT st.heap H).Ns b m := fun {b m} ns => by
    obtain ⟨o, ents, ep, got, dat, rest⟩ := ns
    refine ⟨o, ents, ep, hidT_get got (none_of got fun _ g2 => ?_), dat, rest⟩
    rw [here] at g2
    cases g2
    have bad : Data.seq us.toArray _ = Data.dict ents ep := dat
    cases bad
  have inH : K.In (hidT st.heap H) := fun b o lk => hidT_get (inK b o lk) (by
    by_cases hb : H b = none
    · exact hb
    · have eb := just b hb
      subst eb
      rw [apart hb] at lk
      cases lk)
  have modH : Mod K mg (hidT st.heap H) := ⟨inH, nsH globs, ⟨mb, nsH bns, same⟩, by
    obtain ⟨mc, c1, c2⟩ := nolim
    exact ⟨mc, nsH c1, c2⟩⟩
  have begin0 : Env0 P w K mg (hidT st.heap H) callerA [] st H := ⟨rfl, modH, fun b o e => of_hidT e, Nat.le_of_eq (hidT_size _ _), trivial, (fun b hb => by cases hb), hok, .of_eq nogen⟩
  refine codeAny_mono (F _ inH (nsH globs) st H ⟨[.ref sc], []⟩ [.ref sc] [.ref sc] _ _ begin0 (binds st (.ref sc)) (.cons rfl .nil) want) fun res s2 got => ?_
  match res, got with
  | .error er, got => exact False.elim got
  | .ok .next, got => exact False.elim got
  | .ok .brk, got => exact False.elim got
  | .ok .cont, got => exact False.elim got
  | .ok (.ret u), got =>
    obtain ⟨v, H2, same2, bare2, un2, hok2, rel2, isT⟩ := got
    have isT2 : v = .bl true := isT
    subst isT2
    cases (show u = Value.bool true from rel2)
    refine ⟨rfl, OldK.of_keep fun b o was => ?_, same2, bare2⟩
    by_cases hb : H b = none
    · exact un2.keep b o was hb (fun z => by cases z) (by simp)
    · rcases only b with z | ⟨ob, xs, z⟩
      · exact absurd z hb
      · have then2 := un2.frzs b ob _ z
        obtain ⟨g1, _⟩ := hok b _ z
        obtain ⟨g2, _⟩ := hok2 b _ then2
        rw [was] at g1
        cases g1
        exact g2
theorem run_call {P : Program} {w : World} {K : PySem.W.Frag} {mg mb : Str → Option Value} {fa sc : Addr} {fd : FuncData} {x : Str} {sp : Sp} {st : Shared} {us : List Value} {zs : List Int}
    (inK : K.In st.heap) (globs : st.heap.Ns mainGlobals mg) (bns : st.heap.Ns builtinsNs mb) (same : ∀ y : Str, y ≠ "__name__" → mb y = bootBuiltins y) (nolim : st.heap.NoLimit) (nogen : st.gens = #[])
    (here : st.heap.get? sc = some { cls := .type "list", data := .seq us.toArray }) (intsA : IntsAre us zs) (short : zs.length ≤ sizeLine) (F : ∀ base : Heap, K.In base → base.Ns mainGlobals mg → RunAt P w K mg base fa fd [x] sp) (binds : ∀ (s : Shared) (v : Value), BindsTo s fd ⟨[v], []⟩ [(x, v)])
    (want : ∀ H : Hp, Only H → SqL K H sc (zs.map V.int) → sp [.ref sc] H (fun v _ => v = .bl true) fun _ _ _ => False) :
    codeAny (model P w) callerA (.call (.ref fa) ⟨[.ref sc], []⟩) (fun res s2 => res = .ok (.ret (.bool true)) ∧ OldK st.heap s2.heap ∧ s2.os = st.os ∧ AllBare s2.gens) st := by
  have rels := vals_ints intsA
  have lens := intsA.length
  by_cases hk : K.lookup sc = none
  · have at_ : ∀ b : Addr, (if b = sc then some (HO.frz { cls := .type "list", data := .seq us.toArray } (.lst (zs.map V.int))) else none) ≠ none → b = sc := fun b hb => by
      by_cases eb : b = sc
      · exact eb
      · rw [if_neg eb] at hb
        exact absurd rfl hb
    have only : Only (fun b => if b = sc then some (.frz { cls := .type "list", data := .seq us.toArray } (.lst (zs.map V.int))) else none) := fun b => by
      by_cases eb : b = sc
      · exact .inr ⟨_, _, if_pos eb⟩
      · exact .inl (if_neg eb)
    refine run_head inK globs bns same nolim nogen here F binds (want _ only (.inl (.inr ⟨{ cls := .type "list", data := .seq us.toArray }, if_pos rfl⟩))) only (fun b u z => ?_) at_ fun _ => hk
    by_cases eb : b = sc
    · have z2 := (if_pos eb).symm.trans z
      cases z2
      subst eb
      exact ⟨here, by rw [List.length_map]; exact short, us, _, rels, here⟩
    · have z2 := (if_neg eb).symm.trans z
      cases z2
  · obtain ⟨o, ho⟩ := Option.ne_none_iff_exists'.mp hk
    have same_o := inK sc o ho
    rw [here] at same_o
    cases same_o
    have only : Only (fun _ : Addr => (none : Option HO)) := fun _ => .inl rfl
    exact run_head inK globs bns same nolim nogen here F binds (want _ only (.inr ⟨_, us.toArray, _, ho, rfl, rfl, rfl, by rw [List.size_toArray, lens]; exact short, by simpa using rels⟩)) only (fun b u z => by cases z) (fun b z => absurd rfl z) fun z => absurd rfl z
theorem run_walk {l : PySem.W.OpenLaw} {n : Nat} {q : Program} {loose : List Str} {XP : (Str → Option Value) → Heap → Prop} {YP : World → Heap → Prop} {d : DefRec} {K : Params → PySem.W.Frag} {sp : World → Sp} {x : Str}
    (most : l.most = some n) (small : n ≤ sizeLine) (plain : d.params.defaults = []) (inK : ∀ (w : World) (h : Heap), YP w h → (K w.params).In h)
    (F : ∀ (w : World) (mg : Str → Option Value) (fa : Addr) (h : Heap), (K w.params).In h → h.Ns mainGlobals mg → mg d.name = some (.ref fa) →
      ∃ fd : FuncData, (∀ (s : Shared) (v : Value), BindsTo s fd ⟨[v], []⟩ [(x, v)]) ∧ ∀ base : Heap, (K w.params).In base → base.Ns mainGlobals mg → RunAt l.prog w (K w.params) mg base fa fd [x] (sp w))
    (want : ∀ (w : World) (H : Hp) (a : Addr) (zs : List Int), zs.length ≤ n → Only H → SqL (K w.params) H a (zs.map V.int) → sp w [.ref a] H (fun v _ => v = .bl true) fun _ _ _ => False) :
    PySem.W.WalkO q loose XP YP l.row.toRowW d [] (fun f vs => PySem.call f vs) := by
  refine Att.attach_call most plain fun w _ st mg mb fa o pm cd doc a us zs G Y _ _ _ named here intsA short nogen => ?_
  have KX := inK w _ Y
  obtain ⟨fd, binds, runs⟩ := F w mg fa _ KX G.T.g named
  exact run_call KX G.T.g G.T.b G.T.builtins G.T.nolimit nogen here intsA (Nat.le_trans short small) runs binds fun H only sq => want w H a zs short only sq
/-- a def's body, run by that caller -/
theorem run_def {P : Program} {w : World} {K : PySem.W.Frag} {mg : Str → Option Value} {base : Heap} {k : Nat} {x qual : Str} {st : Stmt} {f : Addr} {fd : FuncData} {N ps : List Str} {sp : Sp} (D : Fun K x qual st f fd) (S : FnScope N ps (defScope st)) (len : ∀ vs H Q E, sp vs H Q E → vs.length = ps.length) (room : Room (k + 1) callerA)
    (body : ∀ (cdv : Value) (s : Shared) (H : Hp) (vs : List V) (Q : VK) (E : XK), Room k (callerA.deeper (PyProof.Rows.envOfC qual (defScope st) s.heap.objs.size f cdv)) → sp vs H Q E →
      ∃ t, PSs (cxOf CX0 P w K mg base N qual (defScope st) f cdv callerA [] s H E).nox (defBody st) t ∧ t { nx := fun _ H' => Q .non H', rt := Q } (start N vs) H) : RunAt P w K mg base f fd ps sp := by
  obtain ⟨oc, od, kV, doc, pm, an, cdv, ct, osl, rfl, lk, code⟩ := D.ex
  intro s H args us vs Q E begin0 binds rels want
  have many := len _ _ _ _ want
  have inK : K.In s.heap := begin0.mod.kin.keeps fun b o e => (begin0.bs b o e).1
  have nolim : s.heap.NoLimit := begin0.mod.nolimit.keeps fun b o e => (begin0.bs b o e).1
  have kinds : ∀ y ∈ ps.zip us, (defScope st).names.lookup y.1 = some .local ∨ ((defScope st).names.lookup y.1 = some .cell ∧ ((cellsFrom (s.heap.objs.size + 1) (defScope st).names []).lookup y.1).isSome = true) := fun y hy => by
    rcases S.par y.1 (List.of_mem_zip (a := y.1) (b := y.2) hy).1 with loc | cel
    · exact .inl loc
    · exact .inr ⟨cel, PySem.W.cellsFrom_some _ _ _ (.inl cel)⟩
  refine codeAny_call_function room.depth (inK _ _ lk) rfl S.co S.gen rfl (PySem.W.codeRec_of inK code) (binds _ _ _ _ ?_)
  refine wpAny_newFunctionEnv_cells S.kind kinds fun env henv s1 made => ?_
  subst henv
  refine ⟨nolim.keeps made.toInCall.keep, codeAny_func ?_⟩
  obtain ⟨t, ht, goes⟩ := body cdv s H vs Q E (room.deeper _) want
  have inv : Inv (cxOf CX0 P w K mg base N qual (defScope st) f cdv callerA [] s H E) [] (start N vs) H s1 := inv_start S room.hd begin0 many rels made
  refine wpAny_mono (ht.nox.run [] s1 (start N vs) H _ inv goes) (fun fl s2 hs => ?_) fun e s2 hs => hs
  match fl, hs with
  | .ret u, ⟨v, σ2, H2, inv2, rv, got⟩ => exact ⟨v, H2, inv2.os, inv2.bare, inv2.base, inv2.hok, rv, got⟩
  | .next, ⟨σ2, H2, inv2, got⟩ => exact ⟨V.non, H2, inv2.os, inv2.bare, inv2.base, inv2.hok, rfl, got⟩
  | .brk, ⟨_, _, _, got⟩ => exact False.elim got
  | .cont, ⟨_, _, _, got⟩ => exact False.elim got
end Z

set_option Elab.async false
set_option linter.all false
set_option maxRecDepth 100000
set_option maxHeartbeats 2100000
namespace Z
open PySem L2
open PySem.Spec PyProof.Rows
local macro_rules | `(tactic| walk_at "side") => `(tactic| first | omega | (unfold CMul; omega) | (unfold CDiv; omega) | (unfold CDivN; omega) | (unfold CPow; omega) | decide)
local macro_rules | `(tactic| walk_at "lst") => `(tactic| first | exact SqL.of (by assumption) | exact SqL.of upd_same | assumption | exact upd_same)
local macro_rules | `(tactic| walk_at "r1") => `(tactic| first | refine ⟨_, rfl, ?_⟩ | refine ⟨_, _, rfl, rfl, ?_⟩ | refine Or.inl ⟨_, rfl, ?_⟩ | refine And.intro rfl ?_ | refine ⟨_, _, _, _, rfl, rfl, by walk_at "lst", rfl, ?_⟩ | refine ⟨_, _, rfl, Or.inl (by walk_at "lst"), ?_⟩ | refine And.intro (by walk_at "side") ?_)
local macro_rules | `(tactic| walk_at "r") => `(tactic| repeat walk_at "r1")
/-! ### repr of what is passed -/
def RpV (K : PySem.W.Frag) (H : Hp) (v : V) (d : PyData) : Prop := OddV H v d ∨ (∃ a, v = .ref a ∧ Dp K H (.ref a) d ∧ Sh 8 sizeLine d)
def rRepr (K : PySem.W.Frag) : List V → Hp → VK → Prop := fun xs H Q => ∃ v d, xs = [v] ∧ RpV K H v d ∧ Q (.str (PyData.shown d)) H
theorem call_reprG {X : Cx} (K : PySem.W.Frag) (hg : X.A.guards = some []) (hu : X.A.units + 64 < cLine) (hK : X.K = K := by rfl) : CallR X (.builtin "repr") (rRepr K) := by
  intro pins s σ H xs us Q inv rl want
  obtain ⟨v, d, rfl, hv, q⟩ := want
  cases rl with
  | cons r1 rr =>
    cases rr
    rcases hv with hv | ⟨a, rfl, dv, sh⟩
    · cases hv with
      | non =>
        cases r1
        refine PySem.P.repr_of_none ?_
        refine ⟨.str "None", H, inv.tok _, ⟨_, rfl⟩, ?_⟩
        simpa only [PyData.shown] using q
      | str =>
        obtain ⟨t, rfl⟩ := (show ∃ t, _ = Value.str "01" t from r1)
        refine PySem.P.repr_of_str ?_ (by decide +kernel)
        refine ⟨.str (reprText "01"), H, inv.tok _, ⟨_, rfl⟩, ?_⟩
        simpa only [PyData.shown] using q
      | int =>
        obtain ⟨t, rfl⟩ := (show ∃ t, _ = Value.int 5 t from r1)
        refine PySem.P.repr_of_int (by decide +kernel) ?_
        refine ⟨.str (toString (5 : Int)), H, inv.tok _, ⟨_, rfl⟩, ?_⟩
        simpa only [PyData.shown] using q
      | dk e =>
        cases r1
        rename_i a
        obtain ⟨_, nsys, vs, rel, o, es, ep, g1, gx, g3, _, prs, _⟩ := dk_rd inv.hok (.inl e)
        have vz : vs = [] := List.length_eq_zero_iff.mp rel.length.symm
        subst vz
        have ez : es.toList = [] := by
          cases ht : es.toList with
          | nil => rfl
          | cons x r =>
            rw [ht] at prs
            cases prs
        have rd : Reads s.heap (.ref a) (.dict []) (a :: [] ++ []) := .dict g1 gx.1 g3 (by rw [ez]; exact .nil) (by rw [ez]; exact .nil)
        refine repr_of_reads' rd (by simp [PyData.showable, PyData.showableKv]) (fun _ hm => ?_) hg (by simp only [PyData.depth, PyData.depthKv]; omega) (fun _ _ e => e) (fun h' u tk hk => ⟨.str (PyData.shown (.dict [])), H, inv.kept (t' := tk) hk, ⟨_, rfl⟩, q⟩) (by simp only [PyData.shown]; decide +kernel)
        have e2 : sysModules = a := by simpa using hm
        rw [e2] at nsys
        simp at nsys
    · cases r1
      obtain ⟨as, rd⟩ := Dp.reads inv d (.ref a) (.ref a) (by rw [hK]; exact dv) rfl
      exact repr_of_reads' rd sh.sw (PyData.noDict_hsm sh.nd) hg (by have := sh.dp; omega) (fun _ _ e => e) (fun h' u tk hk => ⟨.str (PyData.shown d), H, inv.kept (t' := tk) hk, ⟨_, rfl⟩, q⟩) sh.ln
end Z

set_option Elab.async false
set_option linter.all false
set_option maxRecDepth 100000
set_option maxHeartbeats 2100000
namespace Z
open PySem L2
local macro_rules | `(tactic| walk_at "side") => `(tactic| first | omega | (unfold CMul; omega) | (unfold CDiv; omega) | (unfold CDivN; omega) | (unfold CPow; omega) | decide)
local macro_rules | `(tactic| walk_at "lst") => `(tactic| first | exact SqL.of (by assumption) | exact SqL.of upd_same | assumption | exact upd_same)
local macro_rules | `(tactic| walk_at "r1") => `(tactic| first | refine ⟨_, rfl, ?_⟩ | refine ⟨_, _, rfl, rfl, ?_⟩ | refine Or.inl ⟨_, rfl, ?_⟩ | refine And.intro rfl ?_ | refine ⟨_, _, _, _, rfl, rfl, by walk_at "lst", rfl, ?_⟩ | refine ⟨_, _, rfl, Or.inl (by walk_at "lst"), ?_⟩ | refine And.intro (by walk_at "side") ?_)
local macro_rules | `(tactic| walk_at "r") => `(tactic| repeat walk_at "r1")
abbrev s_law : Stmt := top 34
def spLaw (K : PySem.W.Frag) : Sp := fun vs H Q _ => ∃ (a : Addr) (ns : List Int), vs = [.ref a] ∧ SqL K H a (ns.map V.int) ∧ ns.length ≤ 63 ∧ ∀ H', Q (.bl true) H'
section
variable {P : Program} {w : World} {K : PySem.W.Frag} {mg : Str → Option Value} {base : Heap}
theorem PrV.any {H : Hp} {h : Addr} {x : V} {p : PyData} (pv : PrV K (hid h H) x p) : AnyD K H x p := by
  rcases pv with ⟨q, ds, rfl, rfl, pi, _⟩ | o
  · obtain ⟨ys, ey, ia⟩ := pi.ex
    exact .dp (.lst (SqL.of (hid_same _ _ ey)) (DpAll.same hid_same _ _ ia.dp))
  · exact o.any.1.same hid_same
theorem PrV.due {H : Hp} {h : Addr} {x : V} {p : PyData} (pv : PrV K (hid h H) x p) : (∃ q ds, x = .ref q ∧ p = .list ds ∧ PL K H q ds) ∨ (AnyD K H x p ∧ isSeq p = false) := by
  rcases pv with ⟨q, ds, rfl, rfl, pi, _⟩ | o
  · exact .inl ⟨q, ds, rfl, rfl, pi.pl.same hid_same⟩
  · have o2 := (o.same hid_same).any (K := K)
    exact .inr o2
theorem sh_prs {q : Addr} {H : Hp} {ds : List PyData} (pi : PI K H q ds) (hl : ds.length ≤ 1000) : Sh 8 sizeLine (.list ds) ∧ Sh 8 sizeLine (.tuple ds) := by
  have e : ds.length * 6000 + 2 * ds.length + 3 ≤ sizeLine := by
    show _ ≤ 2 ^ 24
    omega
  exact ⟨(sh_list fun d hd => (pi.ok d hd).2).mono (by decide) e, (sh_tuple fun d hd => (pi.ok d hd).2).mono (by decide) e⟩
theorem te_passed {σ : L2.St} {H : Hp} {Q : VK} {h ha : Addr} {xp : V} {nd pd : PyData} (g1 : σ[1]? = some (some (.ref h))) (g7 : σ[7]? = some (some xp)) (n4 : Hnd H h ha) (pv : PrV K (hid h H) xp pd)
    (rest : ∀ (yv : V) (yd : PyData) (H5 : Hp), Keep h H H5 → Hnd H5 h ha → RpV K H5 yv yd → AnyD K H5 yv yd → ordFault nd yd = ordFault nd pd → Q yv H5) :
    tIf (tB (tCB (rIsi K) (tCons (tVar 7) (tCons (tC (V.ty "list")) tNil)))) (tCall (spSeqd K) [] E0 (tCons (tVar 1) (tCons (tVar 7) tNil))) (tVar 7) σ H Q := by
  refine ⟨_, g7, _, _, _, _, _, rfl, .ty _, ty_of_any pv.any, kit_ty (kb_list pd), _, rfl, ?_⟩
  rcases pv with ⟨q, ds, rfl, rfl, pi, hl⟩ | o
  · refine iteT ?_
    refine ⟨_, g1, _, g7, ?_⟩
    have pi0 := pi
    obtain ⟨ys, ey, ia⟩ := pi0.ex
    have eH := hid_same _ _ ey
    have qh : q ≠ h := fun z => by
      rw [z] at ey
      unfold hid at ey
      rw [if_pos rfl] at ey
      cases ey
    obtain ⟨sl, st⟩ := sh_prs pi hl
    refine ⟨h, ha, q, ys, rfl, n4, .inl (SqL.of eH), fun H' k' => .inl (SqL.of (k' _ _ eH qh)), fun p H5 k5 n5 e => ?_⟩
    have da : DpAll K H5 ys ds := DpAll.same hid_same _ _ (ia.same k5.hid).dp
    rcases e with e | e | e
    · exact rest _ (.list ds) H5 k5 n5 (.inr ⟨p, rfl, .lst (SqL.of e) da, sl⟩) (.dp (.lst (SqL.of e) da)) rfl
    · exact rest _ (.tuple ds) H5 k5 n5 (.inr ⟨p, rfl, .tup (SqT.of e) da, st⟩) (.dp (.tup (SqT.of e) da)) rfl
    · exact rest _ (.tuple ds) H5 k5 n5 (.inr ⟨p, rfl, .tup e da, st⟩) (.dp (.tup e da)) rfl
  · have c : isL pd = false := by
      cases o <;> rfl
    rw [c]
    refine iteF ?_
    refine ⟨_, g7, ?_⟩
    have o2 := o.same hid_same
    exact rest _ pd H (Keep.refl _ _) n4 (.inl o2) o2.any.1 rfl
theorem lift_due (o : Option (Str × Int)) : lift (lift fun _ => false) (dueD o) = true := by
  cases o with
  | none => rfl
  | some z => rfl
theorem dpall_rep {H : Hp} {v : V} {d : PyData} (e : Dp K H v d) : ∀ n : Nat, DpAll K H (List.replicate n [v]).flatten (List.replicate n d)
  | 0 => .nil
  | n + 1 => by
    rw [List.replicate_succ, List.replicate_succ, List.flatten_cons]
    exact .cons e (dpall_rep e n)
def z01 : PyData := .tuple [.int 0, .int 1]
theorem full_ok : ordFault (.int 2) (.list (List.replicate 600 z01)) = none := by decide +kernel
theorem full_over : ordFault (.int 2) (.list (List.replicate 600 z01 ++ [z01])) = some (("pairs" : Str), (0 : Int)) := by decide +kernel
theorem sc_law : FnScope ["script", "hand", "turn", "full", "passed", "before", "n", "pairs"] ["script"] (defScope s_law) := ⟨rfl, rfl, rfl, by decide +kernel, rfl, by decide +kernel, by decide +kernel⟩
theorem run_law {f : Addr} {fd : FuncData} (F : Fun K "law" "law" s_law f fd) (T : Bl mg) (c_law_hand : Cal P w K mg base CX0 "_law_hand" 1 (spHand K)) (c_law_wholes : Cal P w K mg base CX0 "_law_wholes" 4 spWholes) (c_law_case : Cal P w K mg base CX0 "_law_case" 5 (spCase K)) (c_law_seq : Cal P w K mg base CX0 "_law_seq" 3 (spSeqd K)) (c_law_exact : Cal P w K mg base CX0 "_law_exact" 3 (spEx K (lift (lift fun _ => false)))) (c_law_told : Cal P w K mg base CX0 "_law_told" 6 (spTold K)) (c_law_due : Cal P w K mg base CX0 "_law_due" 2 (spDue K)) : RunAt P w K mg base f fd ["script"] (spLaw K) := by
  refine run_def (k := 6) F sc_law (fun vs H Q E h => ?_) ⟨rfl, by decide, by decide⟩ (fun cdv s H vs Q E hr h => ?_)
  · obtain ⟨a, ns, rfl, _⟩ := h
    rfl
  · obtain ⟨a, ns, rfl, sq, hl, k⟩ := h
    refine ⟨_,
      (pss_cons (ps_set (i := 1) sc_law.nd rfl (Or.inl rfl) (pe_cal c_law_hand (hr.mono (by decide)) (by rfl) (pa_cons (pv 0) pa_nil)))
      (pss_cons (ps_if (pt_not (pt_val (pe_cal c_law_wholes (hr.mono (by decide)) (by rfl) (pa_cons (pv 1) pa_nil))))
        (pss_one (ps_ret pe_bl))
        pss_nil)
      (pss_cons (ps_for PassesOwn.never rfl (pi_range1 (by rfl) T.n_range (pa_cons pe_int pa_nil)) (pg_name (i := 2) sc_law.nd rfl (Or.inl rfl))
        (pss_cons (ps_asg (pe_cal c_law_case (hr.mono (by decide)) (by rfl) (pa_cons (pv 1) pa_nil)) (pg_tup (by rfl) (pgs_cons (pg_name (i := 6) sc_law.nd rfl (Or.inl rfl)) (pgs_cons (pg_name (i := 7) sc_law.nd rfl (Or.inl rfl)) pgs_nil))))
        (pss_cons (ps_set (i := 4) sc_law.nd rfl (Or.inl rfl) (pe_ifExp (pt_val (pe_callB (kisi K) (by rfl) T.n_isinstance (by decide +kernel) (pa_cons (pv 7) (pa_cons (pe_bltn (v := .ty "list") (u := .type "list") (by rfl) T.n_list (by decide +kernel) rfl) pa_nil)))) (pe_cal c_law_seq (hr.mono (by decide)) (by rfl) (pa_cons (pv 1) (pa_cons (pv 7) pa_nil))) (pv 7)))
        (pss_cons (ps_set (i := 5) sc_law.nd rfl (Or.inl rfl) (pe_callB (call_reprG K rfl hr.units) (by rfl) T.n_repr (by decide +kernel) (pa_cons (pv 4) pa_nil)))
        (pss_one (ps_if (PW.pt (pw_or (pt_not (pt_val (pe_cal c_law_exact (hr.mono (by decide)) (by rfl) (pa_cons (pe_cal c_law_told (hr.mono (by decide)) (by rfl) (pa_cons (pv 6) (pa_cons (pv 4) pa_nil))) (pa_cons (pe_cal c_law_due (hr.mono (by decide)) (by rfl) (pa_cons (pv 6) (pa_cons (pv 7) pa_nil))) pa_nil))))) (pw_or1 (pt_cmpR op_ne (pe_callB (call_reprG K rfl hr.units) (by rfl) T.n_repr (by decide +kernel) (pa_cons (pv 4) pa_nil)) (pv 5) (nomark _)))))
          (pss_one (ps_ret pe_bl))
          pss_nil))))))
      (pss_cons (ps_set (i := 3) sc_law.nd rfl (Or.inl rfl) (pe_op op_rep (pe_lst (pa_cons (pe_tup (pa_cons pe_int (pa_cons pe_int pa_nil))) pa_nil)) pe_int))
      (pss_one (ps_ret (pe_and (pe_cmpR op_isN (pe_cal c_law_told (hr.mono (by decide)) (by rfl) (pa_cons pe_int (pa_cons (pv 3) pa_nil))) pe_non (nomark _)) (pe_one (pe_cal c_law_exact (hr.mono (by decide)) (by rfl) (pa_cons (pe_cal c_law_told (hr.mono (by decide)) (by rfl) (pa_cons pe_int (pa_cons (pe_op op_cat (pv 3) (pe_lst (pa_cons (pe_tup (pa_cons pe_int (pa_cons pe_int pa_nil))) pa_nil))) pa_nil))) (pa_cons (pe_tup (pa_cons pe_str (pa_cons pe_int pa_nil))) pa_nil)))))))))))
      , ?_⟩
    walk_at "r"
    refine ⟨a, ns, rfl, sq, hl, fun h ha H1 s1 n1 _ _ => ?_⟩
    walk_at "r"
    have notFl : ∀ b : Bool, b = true → (!b) = false := fun b e => by rw [e]; rfl
    refine ⟨h, ha, rfl, n1, fun H2 k2 n2 => ⟨_, rfl, ?_⟩⟩
    walk_at "r"
    refine for_range (lo := 0) (n := 5) (fun i σ H' => ∃ (v2 v3 v4 v5 v6 v7 : Option V), σ = [some (.ref a), some (.ref h), v2, v3, v4, v5, v6, v7] ∧ Hnd H' h ha) ⟨none, none, none, none, none, none, rfl, n2⟩ ?_ ?_
    · rintro i σ H3 hi ⟨v2, v3, v4, v5, v6, v7, rfl, n3⟩
      walk_at "r"
      refine ⟨h, ha, rfl, n3, fun p H4 xn xp nd pd k4 n4 ep dn pv => ?_⟩
      refine ⟨p, [xn, xp], rfl, SqT.of ep, ?_⟩
      walk_at "r"
      refine ⟨_, _, rfl, _, _, rfl, rfl, ?_⟩
      refine te_passed (nd := nd) rfl rfl n4 pv (fun yv yd H5 k5 n5 rp an eo => ?_)
      have due := (pv.same k5.hid).due
      walk_at "r"
      refine ⟨yv, yd, rfl, rp, ?_⟩
      walk_at "r"
      refine ⟨xn, yv, nd, yd, rfl, dn _, an, fun r1 H6 s6 d1 => ?_⟩
      rw [eo] at d1
      walk_at "r"
      have due6 : (∃ q ds, xp = .ref q ∧ pd = .list ds ∧ PL K H6 q ds) ∨ (AnyD K H6 xp pd ∧ isSeq pd = false) := by
        rcases due with ⟨q, ds, e1, e2, pl⟩ | ⟨e1, e2⟩
        · exact .inl ⟨q, ds, e1, e2, pl.same s6⟩
        · exact .inr ⟨e1.same s6, e2⟩
      refine ⟨xn, xp, nd, pd, rfl, dn _, due6, fun r2 H7 s7 d2 => ?_⟩
      walk_at "r"
      refine ⟨r1, r2, _, rfl, Dp.same s7 _ _ d1, d2, lift_due _, fun H8 s8 => ?_⟩
      have s58 := s6.trans (s7.trans s8)
      have rp8 : RpV K H8 yv yd := by
        rcases rp with o | ⟨q, e1, e2, e3⟩
        · exact .inl (o.same s58)
        · exact .inr ⟨q, e1, Dp.same s58 _ _ e2, e3⟩
      refine ⟨_, rfl, ?_⟩
      refine iteF ?_
      refine ⟨_, rfl, yv, yd, rfl, rp8, ?_⟩
      refine ⟨_, rfl, rfl, ?_⟩
      have en : (!decide (V.str (PyData.shown yd) = V.str (PyData.shown yd))) = false := by rw [decide_eq_true rfl]; rfl
      refine ⟨_, rfl, ?_⟩
      rw [en]
      refine iteF ?_
      exact ⟨_, _, _, _, _, _, rfl, (n5.same s58)⟩
    · rintro σ H3 ⟨v2, v3, v4, v5, v6, v7, rfl, n3⟩
      walk_at "r"
      intro t1 ht1
      have e1 : upd H3 t1 (.tup [V.int 0, .int 1]) t1 = some (.tup [V.int 0, .int 1]) := upd_same
      generalize upd H3 t1 (.tup [V.int 0, .int 1]) = H4 at e1 ⊢
      walk_at "r"
      refine ⟨(by show 1 ≤ sizeLine; decide), fun l hl => ?_⟩
      have e1 : upd H4 l (.lst [V.ref t1]) t1 = some (.tup [V.int 0, .int 1]) := same_new hl _ _ e1
      have e2 : upd H4 l (.lst [V.ref t1]) l = some (.lst [V.ref t1]) := upd_same
      generalize upd H4 l (.lst [V.ref t1]) = H5 at e1 e2 ⊢
      refine ⟨l, 600, _, rfl, rfl, e2, by decide, by decide, (by show 1 * 600 ≤ sizeLine; decide), fun q hq => ?_⟩
      have d1 : Dp K H5 (.ref t1) z01 := .tup (SqT.of e1) (.cons (.int _) (.cons (.int _) .nil))
      have s5 : Same H5 (upd H5 q (.lst (List.replicate (600 : Int).toNat [V.ref t1]).flatten)) := same_new hq
      have e3 : upd H5 q (.lst (List.replicate (600 : Int).toNat [V.ref t1]).flatten) q = some (.lst (List.replicate (600 : Int).toNat [V.ref t1]).flatten) := upd_same
      have da := dpall_rep d1 600
      have hlen : (List.replicate (600 : Int).toNat [V.ref t1]).flatten.length = 600 := by
        have z := DpAll.len da
        rw [List.length_replicate] at z
        exact z
      have da6 := DpAll.same s5 _ _ da
      have d6 := Dp.same s5 _ _ d1
      generalize upd H5 q (.lst (List.replicate (600 : Int).toNat [V.ref t1]).flatten) = H6 at s5 e3 da6 d6 ⊢
      change H6 q = some (.lst (List.replicate 600 [V.ref t1]).flatten) at e3
      change (List.replicate 600 [V.ref t1]).flatten.length = 600 at hlen
      generalize (List.replicate 600 [V.ref t1]).flatten = zs at e3 hlen da6 ⊢
      walk_at "r"
      refine ⟨.int 2, .ref q, .int 2, .list (List.replicate 600 z01), rfl, .int _, .dp (.lst (SqL.of e3) da6), fun r H7 s7 dr => ?_⟩
      rw [full_ok] at dr
      cases dr
      refine ⟨rfl, _, rfl, ?_⟩
      have eN : (decide (V.non = V.non)) = true := decide_eq_true rfl
      rw [eN]
      refine iteT ?_
      walk_at "r"
      intro t2 ht2
      have s8 : Same H7 (upd H7 t2 (.tup [V.int 0, .int 1])) := same_new ht2
      have f1 : upd H7 t2 (.tup [V.int 0, .int 1]) t2 = some (.tup [V.int 0, .int 1]) := upd_same
      generalize upd H7 t2 (.tup [V.int 0, .int 1]) = H8 at s8 f1 ⊢
      walk_at "r"
      refine ⟨(by show 1 ≤ sizeLine; decide), fun l2 hl2 => ?_⟩
      have s9 : Same H8 (upd H8 l2 (.lst [V.ref t2])) := same_new hl2
      have f2 : upd H8 l2 (.lst [V.ref t2]) l2 = some (.lst [V.ref t2]) := upd_same
      generalize upd H8 l2 (.lst [V.ref t2]) = H9 at s9 f2 ⊢
      have e39 := s9 _ _ (s8 _ _ (s7 _ _ e3))
      refine ⟨q, l2, zs, _, rfl, rfl, e39, f2, (by rw [hlen]; show 600 + 1 ≤ sizeLine; decide), fun q2 hq2 => ?_⟩
      have s10 : Same H9 (upd H9 q2 (.lst (zs ++ [V.ref t2]))) := same_new hq2
      have f3 : upd H9 q2 (.lst (zs ++ [V.ref t2])) q2 = some (.lst (zs ++ [V.ref t2])) := upd_same
      generalize upd H9 q2 (.lst (zs ++ [V.ref t2])) = H10 at s10 f3 ⊢
      have d2 : Dp K H10 (.ref t2) z01 := .tup (SqT.of (s10 _ _ (s9 _ _ f1))) (.cons (.int _) (.cons (.int _) .nil))
      have da10 : DpAll K H10 (zs ++ [V.ref t2]) (List.replicate 600 z01 ++ [z01]) := DpAll.app (DpAll.same (s7.trans (s8.trans (s9.trans s10))) _ _ da6) (.cons d2 .nil)
      walk_at "r"
      refine ⟨.int 2, .ref q2, .int 2, .list (List.replicate 600 z01 ++ [z01]), rfl, .int _, .dp (.lst (SqL.of f3) da10), fun r2 H11 s11 dr => ?_⟩
      rw [full_over] at dr
      walk_at "r"
      intro t3 ht3
      have dr3 := Dp.same (same_new (o := .tup [V.str "pairs", V.int 0]) ht3) _ _ dr
      refine ⟨r2, .ref t3, .tuple [.str "pairs", .int 0], rfl, dr3, .tup (SqT.of upd_same) (.cons (.str _) (.cons (.int _) .nil)), rfl, fun H12 _ => k H12⟩
end
end Z

set_option Elab.async false
set_option linter.all false
set_option maxRecDepth 100000
set_option maxHeartbeats 2100000
namespace Z
open PySem L2
open PySem.Spec PyProof.Rows
/-! ### what the top has written -/
theorem fun_of {K : PySem.W.Frag} {x q : Str} {st : Stmt} {f : Addr} {fd : FuncData} (F : FunD K x q (defArgs st) (defBody st) (defScope st) [] [] f fd) : Fun K x q st f fd := by
  obtain ⟨oc, od, dV, kV, doc, pm, an, cdv, ct, osl, e, lk, hcd, hD, hK⟩ := F.ex
  rcases hD with ⟨_, rfl⟩ | ⟨z, _⟩
  · exact ⟨⟨oc, od, kV, doc, pm, an, cdv, ct, osl, e, lk, hcd⟩, F.kp⟩
  · exact absurd rfl z
/-- the class at C: an exception's, of ValueError's line -/
def exB (K : PySem.W.Frag) (C : Addr) : Bool :=
  match K.lookup C with
  | some ⟨.type "type", _, .cls cd, sl⟩ =>
    (match cd.mro, sl.toList with
    | .ref D :: bm, [_, _, _, _, some (.builtin n), _] => (D == C) && ((n == "ValueError.__new__") && (!cd.hasDel && (cd.hasDict && PySem.HandSPX.refsVE bm)))
    | _, _ => false)
  | _ => false
theorem exB_ok {K : PySem.W.Frag} {C : Addr} (h : exB K C = true) : ∃ nm q N bs bm sn sub ab col dd k0 k1 k2 k3 k5, K.lookup C = some (excClassObj nm q C N bs bm true sn sub ab col dd k0 k1 k2 k3 k5 "ValueError.__new__") ∧ PySem.HandSPX.refsVE bm = true := by
  unfold exB at h
  split at h
  · rename_i dd cd sl ho
    split at h
    · rename_i D bm k0 k1 k2 k3 n k5 hm hs
      simp only [Bool.and_eq_true, beq_iff_eq, Bool.not_eq_true'] at h
      obtain ⟨rfl, rfl, h1, h2, h3⟩ := h
      obtain ⟨nm, bs, mro, ns, qn, hd, sn, sub, ab, col, del⟩ := cd
      dsimp only at hm h1 h2
      subst hm h1 h2
      have e : sl = #[k0, k1, k2, k3, some (.builtin "ValueError.__new__"), k5] := by
        obtain ⟨l⟩ := sl
        simp only at hs
        rw [hs]
      subst e
      exact ⟨nm, qn, ns, bs, bm, sn, sub, ab, col, dd, k0, k1, k2, k3, k5, ho, h3⟩
    · cases h
  · cases h
open He in
/-- of the error's class -/
def exL (K : PySem.W.Frag) (C FE BM BD fI : Addr) : List Bool :=
  [exB K C, eqO (PySem.W.findIn K (.ref C) "__setattr__") (some (some (.builtin "object.__setattr__"))), decide (PySem.W.subIn K (.ref C) (.type "BaseException") = some true),
   decide (PySem.W.typeIn K (.ref C) = some (.type "type")), PySem.W.keepIn K (.ref C), xfB K C, (PySem.W.clsIn K C).isSome, eqO (PySem.W.findIn K (.ref C) "__class__") (some (some (.builtin "object.__class__"))),
   eqO (PySem.W.specialIn K (.builtin "object.__class__") "__get__") (some (some (.builtin "getset_descriptor.__get__"))), decide (PySem.W.takesIn K (.builtin "object.__class__") = some true),
   decide (PySem.W.mroIn K C (.type "object") = some true), decide (PySem.W.exmOne K (.ref C) (.ref C) = some true), decide (PySem.W.kitOne K (.ref C) (.ref FE) = some true),
   decide (PySem.W.kitOne K (.ref C) (.type "ValueError") = some true), decide (PySem.W.kitAny K (.ref C) [.ref BM, .ref BD] = some false), decide (PySem.W.typeIn K (.ref fI) = some (.type "function"))]
open He in
def exK (K : PySem.W.Frag) : Bool := (exL K (ga K "BadOrder") (ga K "FrameError") (ga K "BadMake") (ga K "BadData") (ma K (ga K "BadOrder") "__init__")).all id
theorem all_at {l : List Bool} (h : l.all id = true) (i : Nat) {b : Bool} (e : l[i]? = some b) : b = true := List.all_eq_true.mp h b (List.mem_of_getElem? e)
/-! ### the Hook: facts by names and one Bool more -/
abbrev AlY : Type := He.AlD × Bool
structure SaysY (fa : List He.Fa) (fn : List He.DefD) (ex : PySem.W.Frag → Bool) (K : PySem.W.Frag) : Prop where
  d : He.SaysD fa fn K
  more : ex K = true
def obsY (n : Nat) (fa : List He.Fa) (fn : List He.DefD) (ex : PySem.W.Frag → Bool) (g : Addr → Option Obj) : AlY := (He.obsD fa fn (He.frG g (He.asD g n)), ex (He.frG g (He.asD g n)))
def hookY (n : Nat) (fa : List He.Fa) (fn : List He.DefD) (ex : PySem.W.Frag → Bool) : PySem.W.Hook where
  α := AlY
  obs := fun s => obsY n fa fn ex s.heap.get?
  val := fun _ => (He.valD fn, true)
  says := fun _ h => ∃ K : PySem.W.Frag, K.In h ∧ SaysY fa fn ex K
  of := fun _ _ e => ⟨_, He.frG_in, ⟨congrArg (fun z : AlY => z.1) e, congrArg (fun z : AlY => z.2) e⟩⟩
  keeps := fun _ _ _ ⟨K, hK, c⟩ k => ⟨K, PySem.W.Frag.In.keeps hK k, c⟩
theorem obsY_eq {n : Nat} {fa : List He.Fa} {fn : List He.DefD} {ex : PySem.W.Frag → Bool} {g : Addr → Option Obj} {s : Shared} (h : ∀ a, g a = s.heap.get? a) : obsY n fa fn ex g = (hookY n fa fn ex).obs s := by
  have e : g = s.heap.get? := funext h
  rw [e] <;> rfl
theorem run_walkE {l : PySem.W.OpenLaw} {n : Nat} {q : Program} {loose : List Str} {XP : (Str → Option Value) → Heap → Prop} {YP : World → Heap → Prop} {d : DefRec} {x : Str}
    (most : l.most = some n) (small : n ≤ sizeLine) (plain : d.params.defaults = [])
    (F : ∀ (w : World) (mg : Str → Option Value) (fa : Addr) (h : Heap), YP w h → h.Ns mainGlobals mg → mg d.name = some (.ref fa) →
      ∃ (K : PySem.W.Frag) (fd : FuncData) (sp : Sp), K.In h ∧ (∀ (s : Shared) (v : Value), BindsTo s fd ⟨[v], []⟩ [(x, v)]) ∧
        (∀ (H : Hp) (a : Addr) (zs : List Int), zs.length ≤ n → Only H → SqL K H a (zs.map V.int) → sp [.ref a] H (fun v _ => v = .bl true) fun _ _ _ => False) ∧
        ∀ base : Heap, K.In base → base.Ns mainGlobals mg → RunAt l.prog w K mg base fa fd [x] sp) :
    PySem.W.WalkO q loose XP YP l.row.toRowW d [] (fun f vs => PySem.call f vs) := by
  refine Att.attach_call most plain fun w _ st mg mb fa o pm cd doc a us zs G Y _ _ _ named here intsA short nogen => ?_
  obtain ⟨K, fd, sp, KX, binds, want, runs⟩ := F w mg fa _ Y G.T.g named
  exact run_call KX G.T.g G.T.b G.T.builtins G.T.nolimit nogen here intsA (Nat.le_trans short small) runs binds fun H only sq => want H a zs short only sq
end Z

set_option Elab.async false
set_option linter.all false
set_option maxRecDepth 100000
set_option maxHeartbeats 2100000
namespace Z
open PySem L2
open PySem.Spec PyProof.Rows
def fnL : List He.DefD := [
  ⟨("_law_mix", none), "_law_mix", "_law_mix", defArgs (top 19), defBody (top 19), defScope (top 19), [], []⟩,
  ⟨("_law_draw", none), "_law_draw", "_law_draw", defArgs (top 20), defBody (top 20), defScope (top 20), [], []⟩,
  ⟨("_law_shuffled", none), "_law_shuffled", "_law_shuffled", defArgs (top 21), defBody (top 21), defScope (top 21), [], []⟩,
  ⟨("_law_closed", none), "_law_closed", "_law_closed", defArgs (top 22), defBody (top 22), defScope (top 22), [], []⟩,
  ⟨("_law_order", none), "_law_order", "_law_order", defArgs (top 23), defBody (top 23), defScope (top 23), [], []⟩,
  ⟨("_law_exact", none), "_law_exact", "_law_exact", defArgs (top 24), defBody (top 24), defScope (top 24), [], []⟩,
  ⟨("_law_hand", none), "_law_hand", "_law_hand", defArgs (top 25), defBody (top 25), defScope (top 25), [], []⟩,
  ⟨("_law_seq", none), "_law_seq", "_law_seq", defArgs (top 26), defBody (top 26), defScope (top 26), [], []⟩,
  ⟨("_law_strict", none), "_law_strict", "_law_strict", defArgs (top 27), defBody (top 27), defScope (top 27), [], []⟩,
  ⟨("_law_state", none), "_law_state", "_law_state", defArgs (top 28), defBody (top 28), defScope (top 28), [], []⟩,
  ⟨("_law_due", none), "_law_due", "_law_due", defArgs (top 29), defBody (top 29), defScope (top 29), [], []⟩,
  ⟨("_law_told", none), "_law_told", "_law_told", defArgs (top 30), defBody (top 30), defScope (top 30), [], []⟩,
  ⟨("_law_spoilt", none), "_law_spoilt", "_law_spoilt", defArgs (top 31), defBody (top 31), defScope (top 31), [], []⟩,
  ⟨("_law_case", none), "_law_case", "_law_case", defArgs (top 32), defBody (top 32), defScope (top 32), [], []⟩,
  ⟨("_law_wholes", none), "_law_wholes", "_law_wholes", defArgs (top 33), defBody (top 33), defScope (top 33), [], []⟩,
  ⟨("law", none), "law", "law", defArgs (top 34), defBody (top 34), defScope (top 34), [], []⟩,
  ⟨("is_whole", none), "is_whole", "is_whole", defArgs (top 7), defBody (top 7), defScope (top 7), [.non, .non], []⟩,
  ⟨("is_sequence", none), "is_sequence", "is_sequence", defArgs (top 8), defBody (top 8), defScope (top 8), [], []⟩,
  ⟨("is_couple", none), "is_couple", "is_couple", defArgs (top 9), defBody (top 9), defScope (top 9), [], []⟩,
  ⟨("_check_parts", none), "_check_parts", "_check_parts", defArgs (top 13), defBody (top 13), defScope (top 13), [], []⟩,
  ⟨("_closed", none), "_closed", "_closed", defArgs (top 14), defBody (top 14), defScope (top 14), [], []⟩,
  ⟨("_check_closed", none), "_check_closed", "_check_closed", defArgs (top 15), defBody (top 15), defScope (top 15), [], []⟩,
  ⟨("_is_cover", none), "_is_cover", "_is_cover", defArgs (top 16), defBody (top 16), defScope (top 16), [], []⟩,
  ⟨("BadOrder", some "__init__"), "__init__", "BadOrder.__init__", defArgs s_bo, defBody s_bo, defScope s_bo, [], []⟩,
  ⟨("Order", some "__init__"), "__init__", "Order.__init__", defArgs s_oi, defBody s_oi, defScope s_oi, [], []⟩]
def faL : List He.Fa := [.glo "_law_mix", .glo "_law_draw", .glo "_law_shuffled", .glo "_law_closed", .glo "_law_order", .glo "_law_exact", .glo "_law_hand", .glo "_law_seq", .glo "_law_strict", .glo "_law_state", .glo "_law_due", .glo "_law_told", .glo "_law_spoilt", .glo "_law_case", .glo "_law_wholes", .glo "law", .glo "is_whole", .glo "is_sequence", .glo "is_couple", .glo "_check_parts", .glo "_closed", .glo "_check_closed", .glo "_is_cover", .glo "FrameError", .glo "BadOrder", .glo "BadMake", .glo "BadData", .glo "Order", .free "len", .free "int", .free "abs", .free "range", .free "enumerate", .free "list", .free "tuple", .free "isinstance", .free "bool", .free "str", .free "any", .free "repr", .free "ValueError", .int "MOST_STATES" 24, .int "MOST_PAIRS" 600, .mkr "Order", .cls "Order", .noat "Order" "n", .noat "Order" "_above", .noat "Order" "_below", .noat "Order" "_covers", .noat "Order" "_ends", .noat "Order" "edges", .noat "BadOrder" "what", .noat "BadOrder" "at", .meth "BadOrder" "__init__"]
theorem cal_of {P : Program} {w : World} {K : PySem.W.Frag} {mg : Str → Option Value} {base : Heap} {CX : CXT} {x q : Str} {st : Stmt} {f : Addr} {fd : FuncData} {ps : List Str} {k : Nat} {sp : Sp} (F : Fun K x q st f fd) (g : mg x = some (.ref f)) (b : Binds K fd ps []) (ok : FnOk P w K mg base CX k f fd ps sp) : Cal P w K mg base CX x k sp := ⟨⟨f, fd, ps, g, F.kp, b, ok⟩⟩
theorem ex_none {P : Program} {w : World} {K : PySem.W.Frag} {mg : Str → Option Value} {base : Heap} {f : Addr} {fd : FuncData} (F : Fun K "_law_exact" "_law_exact" s_exact f fd) : FnOk P w K mg base CX0 1 f fd ["told", "due"] (spEx K fun _ => false) := by
  refine F.ok (k := 0) sc_exact (fun vs H Q E h => ?_) (fun cdv A outer s H vs Q E hr h => ?_)
  · obtain ⟨x, y, d, _, _, _, h, _⟩ := h
    cases h
  · obtain ⟨x, y, d, _, _, _, h, _⟩ := h
    cases h
theorem facts {P : Program} {w : World} {K : PySem.W.Frag} {h : Heap} {mg : Str → Option Value} {f : Addr} (X : K.In h) (G : h.Ns mainGlobals mg) (hfa : mg ("law" : Str) = some (.ref f)) (c : SaysY faL fnL exK K) :
    ∃ fd : FuncData, (∀ (s : Shared) (v : Value), BindsTo s fd ⟨[v], []⟩ [("script", v)]) ∧ ∀ base : Heap, K.In base → base.Ns mainGlobals mg → RunAt P w K mg base f fd ["script"] (spLaw K) := by
  have gl : ∀ (i : Nat) (x : Str), faL[i]? = some (.glo x) → mg x = some (.ref (He.ga K x)) := fun i x e => He.glo_ok X G (c.d.fact i (f := .glo x) e)
  have fr : ∀ (i : Nat) (x : Str), faL[i]? = some (.free x) → mg x = none := fun i x e => He.free_ok X G (c.d.fact i (f := .free x) e)
  obtain ⟨fd_law_mix, D_law_mix⟩ := c.d.def_ 0 rfl
  have F_law_mix := fun_of (x := "_law_mix") (q := "_law_mix") (st := (top 19)) D_law_mix
  have b_law_mix := F_law_mix.binds (ps := ["number", "turn"]) fun _ _ _ _ _ _ us hl => match us, hl with | [_, _], _ => rfl
  have g_law_mix := gl 0 "_law_mix" rfl
  obtain ⟨fd_law_draw, D_law_draw⟩ := c.d.def_ 1 rfl
  have F_law_draw := fun_of (x := "_law_draw") (q := "_law_draw") (st := (top 20)) D_law_draw
  have b_law_draw := F_law_draw.binds (ps := ["hand", "many"]) fun _ _ _ _ _ _ us hl => match us, hl with | [_, _], _ => rfl
  have g_law_draw := gl 1 "_law_draw" rfl
  obtain ⟨fd_law_shuffled, D_law_shuffled⟩ := c.d.def_ 2 rfl
  have F_law_shuffled := fun_of (x := "_law_shuffled") (q := "_law_shuffled") (st := (top 21)) D_law_shuffled
  have b_law_shuffled := F_law_shuffled.binds (ps := ["hand", "row"]) fun _ _ _ _ _ _ us hl => match us, hl with | [_, _], _ => rfl
  have g_law_shuffled := gl 2 "_law_shuffled" rfl
  obtain ⟨fd_law_closed, D_law_closed⟩ := c.d.def_ 3 rfl
  have F_law_closed := fun_of (x := "_law_closed") (q := "_law_closed") (st := (top 22)) D_law_closed
  have b_law_closed := F_law_closed.binds (ps := ["n", "pairs"]) fun _ _ _ _ _ _ us hl => match us, hl with | [_, _], _ => rfl
  have g_law_closed := gl 3 "_law_closed" rfl
  obtain ⟨fd_law_order, D_law_order⟩ := c.d.def_ 4 rfl
  have F_law_order := fun_of (x := "_law_order") (q := "_law_order") (st := (top 23)) D_law_order
  have b_law_order := F_law_order.binds (ps := ["hand", "most"]) fun _ _ _ _ _ _ us hl => match us, hl with | [_, _], _ => rfl
  have g_law_order := gl 4 "_law_order" rfl
  obtain ⟨fd_law_exact, D_law_exact⟩ := c.d.def_ 5 rfl
  have F_law_exact := fun_of (x := "_law_exact") (q := "_law_exact") (st := (top 24)) D_law_exact
  have b_law_exact := F_law_exact.binds (ps := ["told", "due"]) fun _ _ _ _ _ _ us hl => match us, hl with | [_, _], _ => rfl
  have g_law_exact := gl 5 "_law_exact" rfl
  obtain ⟨fd_law_hand, D_law_hand⟩ := c.d.def_ 6 rfl
  have F_law_hand := fun_of (x := "_law_hand") (q := "_law_hand") (st := (top 25)) D_law_hand
  have b_law_hand := F_law_hand.binds (ps := ["script"]) fun _ _ _ _ _ _ us hl => match us, hl with | [_], _ => rfl
  have g_law_hand := gl 6 "_law_hand" rfl
  obtain ⟨fd_law_seq, D_law_seq⟩ := c.d.def_ 7 rfl
  have F_law_seq := fun_of (x := "_law_seq") (q := "_law_seq") (st := (top 26)) D_law_seq
  have b_law_seq := F_law_seq.binds (ps := ["hand", "row"]) fun _ _ _ _ _ _ us hl => match us, hl with | [_, _], _ => rfl
  have g_law_seq := gl 7 "_law_seq" rfl
  obtain ⟨fd_law_strict, D_law_strict⟩ := c.d.def_ 8 rfl
  have F_law_strict := fun_of (x := "_law_strict") (q := "_law_strict") (st := (top 27)) D_law_strict
  have b_law_strict := F_law_strict.binds (ps := ["n", "pairs"]) fun _ _ _ _ _ _ us hl => match us, hl with | [_, _], _ => rfl
  have g_law_strict := gl 8 "_law_strict" rfl
  obtain ⟨fd_law_state, D_law_state⟩ := c.d.def_ 9 rfl
  have F_law_state := fun_of (x := "_law_state") (q := "_law_state") (st := (top 28)) D_law_state
  have b_law_state := F_law_state.binds (ps := ["n", "x"]) fun _ _ _ _ _ _ us hl => match us, hl with | [_, _], _ => rfl
  have g_law_state := gl 9 "_law_state" rfl
  obtain ⟨fd_law_due, D_law_due⟩ := c.d.def_ 10 rfl
  have F_law_due := fun_of (x := "_law_due") (q := "_law_due") (st := (top 29)) D_law_due
  have b_law_due := F_law_due.binds (ps := ["n", "pairs"]) fun _ _ _ _ _ _ us hl => match us, hl with | [_, _], _ => rfl
  have g_law_due := gl 10 "_law_due" rfl
  obtain ⟨fd_law_told, D_law_told⟩ := c.d.def_ 11 rfl
  have F_law_told := fun_of (x := "_law_told") (q := "_law_told") (st := (top 30)) D_law_told
  have b_law_told := F_law_told.binds (ps := ["n", "pairs"]) fun _ _ _ _ _ _ us hl => match us, hl with | [_, _], _ => rfl
  have g_law_told := gl 11 "_law_told" rfl
  obtain ⟨fd_law_spoilt, D_law_spoilt⟩ := c.d.def_ 12 rfl
  have F_law_spoilt := fun_of (x := "_law_spoilt") (q := "_law_spoilt") (st := (top 31)) D_law_spoilt
  have b_law_spoilt := F_law_spoilt.binds (ps := ["hand", "n", "pairs"]) fun _ _ _ _ _ _ us hl => match us, hl with | [_, _, _], _ => rfl
  have g_law_spoilt := gl 12 "_law_spoilt" rfl
  obtain ⟨fd_law_case, D_law_case⟩ := c.d.def_ 13 rfl
  have F_law_case := fun_of (x := "_law_case") (q := "_law_case") (st := (top 32)) D_law_case
  have b_law_case := F_law_case.binds (ps := ["hand"]) fun _ _ _ _ _ _ us hl => match us, hl with | [_], _ => rfl
  have g_law_case := gl 13 "_law_case" rfl
  obtain ⟨fd_law_wholes, D_law_wholes⟩ := c.d.def_ 14 rfl
  have F_law_wholes := fun_of (x := "_law_wholes") (q := "_law_wholes") (st := (top 33)) D_law_wholes
  have b_law_wholes := F_law_wholes.binds (ps := ["hand"]) fun _ _ _ _ _ _ us hl => match us, hl with | [_], _ => rfl
  have g_law_wholes := gl 14 "_law_wholes" rfl
  obtain ⟨fd_law, D_law⟩ := c.d.def_ 15 rfl
  have F_law := fun_of (x := "law") (q := "law") (st := (top 34)) D_law
  have b_law := F_law.binds (ps := ["script"]) fun _ _ _ _ _ _ us hl => match us, hl with | [_], _ => rfl
  have g_law := gl 15 "law" rfl
  obtain ⟨fd_is_whole, D_is_whole⟩ := c.d.def_ 16 rfl
  obtain ⟨fd_is_sequence, D_is_sequence⟩ := c.d.def_ 17 rfl
  have F_is_sequence := fun_of (x := "is_sequence") (q := "is_sequence") (st := (top 8)) D_is_sequence
  have b_is_sequence := F_is_sequence.binds (ps := ["thing"]) fun _ _ _ _ _ _ us hl => match us, hl with | [_], _ => rfl
  have g_is_sequence := gl 17 "is_sequence" rfl
  obtain ⟨fd_is_couple, D_is_couple⟩ := c.d.def_ 18 rfl
  have F_is_couple := fun_of (x := "is_couple") (q := "is_couple") (st := (top 9)) D_is_couple
  have b_is_couple := F_is_couple.binds (ps := ["thing", "high"]) fun _ _ _ _ _ _ us hl => match us, hl with | [_, _], _ => rfl
  have g_is_couple := gl 18 "is_couple" rfl
  obtain ⟨fd_check_parts, D_check_parts⟩ := c.d.def_ 19 rfl
  have F_check_parts := fun_of (x := "_check_parts") (q := "_check_parts") (st := (top 13)) D_check_parts
  have b_check_parts := F_check_parts.binds (ps := ["n", "pairs"]) fun _ _ _ _ _ _ us hl => match us, hl with | [_, _], _ => rfl
  have g_check_parts := gl 19 "_check_parts" rfl
  obtain ⟨fd_closed, D_closed⟩ := c.d.def_ 20 rfl
  have F_closed := fun_of (x := "_closed") (q := "_closed") (st := (top 14)) D_closed
  have b_closed := F_closed.binds (ps := ["n", "pairs"]) fun _ _ _ _ _ _ us hl => match us, hl with | [_, _], _ => rfl
  have g_closed := gl 20 "_closed" rfl
  obtain ⟨fd_check_closed, D_check_closed⟩ := c.d.def_ 21 rfl
  have F_check_closed := fun_of (x := "_check_closed") (q := "_check_closed") (st := (top 15)) D_check_closed
  have b_check_closed := F_check_closed.binds (ps := ["less"]) fun _ _ _ _ _ _ us hl => match us, hl with | [_], _ => rfl
  have g_check_closed := gl 21 "_check_closed" rfl
  obtain ⟨fd_is_cover, D_is_cover⟩ := c.d.def_ 22 rfl
  have F_is_cover := fun_of (x := "_is_cover") (q := "_is_cover") (st := (top 16)) D_is_cover
  have b_is_cover := F_is_cover.binds (ps := ["less", "low", "high"]) fun _ _ _ _ _ _ us hl => match us, hl with | [_, _, _], _ => rfl
  have g_is_cover := gl 22 "_is_cover" rfl
  obtain ⟨fd_BadOrder, D_BadOrder⟩ := c.d.def_ 23 rfl
  have F_BadOrder := fun_of (x := "__init__") (q := "BadOrder.__init__") (st := s_bo) D_BadOrder
  have b_BadOrder := F_BadOrder.binds (ps := ["self", "what", "at"]) fun _ _ _ _ _ _ us hl => match us, hl with | [_, _, _], _ => rfl
  obtain ⟨fd_Order, D_Order⟩ := c.d.def_ 24 rfl
  have F_Order := fun_of (x := "__init__") (q := "Order.__init__") (st := s_oi) D_Order
  have b_Order := F_Order.binds (ps := ["self", "n", "pairs"]) fun _ _ _ _ _ _ us hl => match us, hl with | [_, _, _], _ => rfl
  have g_FrameError := gl 23 "FrameError" rfl
  have g_BadOrder := gl 24 "BadOrder" rfl
  have g_BadMake := gl 25 "BadMake" rfl
  have g_BadData := gl 26 "BadData" rfl
  have g_Order := gl 27 "Order" rfl
  have g_is_whole := gl 16 "is_whole" rfl
  have T : Bl mg := ⟨fr 28 "len" rfl, fr 29 "int" rfl, fr 30 "abs" rfl, fr 31 "range" rfl, fr 32 "enumerate" rfl, fr 33 "list" rfl, fr 34 "tuple" rfl, fr 35 "isinstance" rfl, fr 36 "bool" rfl, fr 37 "str" rfl, fr 38 "any" rfl, fr 39 "repr" rfl⟩
  have e := hfa.symm.trans g_law
  cases e
  have m := c.more
  have x (i : Nat) {b : Bool} (e : (exL K (He.ga K "BadOrder") (He.ga K "FrameError") (He.ga K "BadMake") (He.ga K "BadData") (He.ma K (He.ga K "BadOrder") "__init__"))[i]? = some b) : b = true := all_at m i e
  have ox : OexC K (He.ga K "BadOrder") := ⟨exB_ok (x 0 rfl), He.eqO_ok (x 1 rfl), of_decide_eq_true (x 2 rfl), of_decide_eq_true (x 3 rfl), x 4 rfl⟩
  have mb := He.meth_ok (c.d.fact 53 (f := .meth "BadOrder" "__init__") rfl)
  have n1 := He.noat_ok (c.d.fact 51 (f := .noat "BadOrder" "what") rfl)
  have n2 := He.noat_ok (c.d.fact 52 (f := .noat "BadOrder" "at") rfl)
  have B : ExC K mg (He.ga K "BadOrder") (He.ma K (He.ga K "BadOrder") "__init__") := ⟨ox, g_BadOrder, mb.at_, of_decide_eq_true (x 15 rfl), n1, n2⟩
  have TC : ToldC K mg (He.ga K "BadOrder") (He.ga K "FrameError") (He.ga K "BadMake") (He.ga K "BadData") := ⟨x 6 rfl, (xfB_ok (x 5 rfl)).gg, He.eqO_ok (x 7 rfl), He.eqO_ok (x 8 rfl), of_decide_eq_true (x 9 rfl), of_decide_eq_true (x 10 rfl), xfB_ok (x 5 rfl), of_decide_eq_true (x 11 rfl), g_FrameError, g_BadMake, g_BadData, fr 40 "ValueError" rfl, of_decide_eq_true (x 12 rfl), of_decide_eq_true (x 13 rfl), of_decide_eq_true (x 14 rfl)⟩
  have no (i : Nat) (a : Str) (e : faL[i]? = some (.noat "Order" a)) : NoAttr K (He.ga K "Order") a := He.noat_ok (c.d.fact i (f := .noat "Order" a) e)
  have OC : OrC K (He.ga K "Order") := ⟨He.cls_ok (c.d.fact 44 (f := .cls "Order") rfl), no 45 "n" rfl, no 46 "_above" rfl, no 47 "_below" rfl, no 48 "_covers" rfl, no 49 "_ends" rfl, no 50 "edges" rfl⟩
  have MO := He.mkr_ok (c.d.fact 43 (f := .mkr "Order") rfl)
  have CN : Cn mg := ⟨He.int_ok X G (c.d.fact 41 (f := .int "MOST_STATES" 24) rfl), He.int_ok X G (c.d.fact 42 (f := .int "MOST_PAIRS" 600) rfl)⟩
  have bl := FunD.bindsA (ps := ["script"]) D_law fun _ _ _ _ _ _ us hl => match us, hl with | [_], _ => rfl
  refine ⟨fd_law, fun s v => bl s [v] rfl, fun base _ _ => ?_⟩
  have k_mix := cal_of F_law_mix g_law_mix b_law_mix (ok_mix (P := P) (w := w) (base := base) F_law_mix T)
  have k_draw := cal_of F_law_draw g_law_draw b_law_draw (ok_draw F_law_draw T k_mix)
  have k_shuf := cal_of F_law_shuffled g_law_shuffled b_law_shuffled (ok_shuf F_law_shuffled T k_draw)
  have k_lcl := cal_of F_law_closed g_law_closed b_law_closed (ok_lcl (P := P) (w := w) (base := base) F_law_closed T)
  have k_lor := cal_of F_law_order g_law_order b_law_order (ok_lor F_law_order T k_draw k_shuf k_lcl)
  have k_e1 := cal_of F_law_exact g_law_exact b_law_exact (ex_none (P := P) (w := w) (base := base) F_law_exact)
  have k_e2 := cal_of F_law_exact g_law_exact b_law_exact (ok_exact F_law_exact T k_e1)
  have k_e3 := cal_of F_law_exact g_law_exact b_law_exact (ok_exact F_law_exact T k_e2)
  have k_hand := cal_of F_law_hand g_law_hand b_law_hand (ok_hand (P := P) (w := w) (base := base) F_law_hand T)
  have k_seqd := cal_of F_law_seq g_law_seq b_law_seq (ok_seqd F_law_seq T k_draw)
  have k_strict := cal_of F_law_strict g_law_strict b_law_strict (ok_strict (P := P) (w := w) (base := base) F_law_strict T)
  have k_state := cal_of F_law_state g_law_state b_law_state (ok_state (P := P) (w := w) (base := base) F_law_state T)
  have k_due := cal_of F_law_due g_law_due b_law_due (ok_due F_law_due T k_state k_strict)
  have k_spoilt := cal_of F_law_spoilt g_law_spoilt b_law_spoilt (ok_spoilt F_law_spoilt T k_draw)
  have k_case := cal_of F_law_case g_law_case b_law_case (ok_case F_law_case T k_draw k_lor k_shuf k_spoilt)
  have w_ok := ok_whole (P := P) (w := w) (base := base) D_is_whole T
  have k_wh : Cal P w K mg base CX0 "is_whole" 1 (spWhole K) := ⟨⟨_, _, _, g_is_whole, D_is_whole.kp, (calw D_is_whole w_ok g_is_whole D_is_whole.kp).b3, w_ok⟩⟩
  have k_sq := cal_of F_is_sequence g_is_sequence b_is_sequence (ok_seq (P := P) (w := w) (base := base) F_is_sequence T)
  have k_cp := cal_of F_is_couple g_is_couple b_is_couple (ok_couple F_is_couple T k_sq k_wh)
  have k_parts := cal_of F_check_parts g_check_parts b_check_parts (ok_parts F_check_parts T CN B F_BadOrder b_BadOrder k_sq k_wh k_cp)
  have k_clo := cal_of F_closed g_closed b_closed (ok_closed (P := P) (w := w) (base := base) F_closed T)
  have k_cc := cal_of F_check_closed g_check_closed b_check_closed (ok_cc (P := P) (w := w) (base := base) F_check_closed T B F_BadOrder b_BadOrder)
  have k_cov := cal_of F_is_cover g_is_cover b_is_cover (ok_cov (P := P) (w := w) (base := base) F_is_cover T)
  have o_ok := ok_oi F_Order T OC k_parts k_clo k_cc k_cov
  have k_told := cal_of F_law_told g_law_told b_law_told (ok_told F_law_told T TC OC n1 n2 g_BadOrder g_Order MO o_ok b_Order)
  have k_wholes := cal_of F_law_wholes g_law_wholes b_law_wholes (ok_wholes F_law_wholes T (calw D_is_whole w_ok g_is_whole D_is_whole.kp) k_draw k_e3 k_sq)
  exact run_law F_law T k_hand k_wholes k_case k_seqd k_e3 k_told k_due
end Z

set_option Elab.async false
set_option linter.all false
set_option maxRecDepth 100000
set_option maxHeartbeats 0
namespace Z
open PySem L2
open PySem.Spec PyProof.Rows
abbrev R04 : PySem.W.OpenRow := PySem.W.OpenLaw.row PySem.Challenge.rw_spentframes_k04_refused_orders
abbrev hk04 : PySem.W.Hook := hookY 5 faL fnL exK
def ob04 (s : PySem.W.SharedT) : AlY := obsY 5 faL fnL exK (HandSHeadRun.getT s)
theorem ob04_eq (s : PySem.W.SharedT) : ob04 s = hk04.obs s.abs := obsY_eq (HandSHeadRun.getT_eq s)
def loose04 : List Str := ["_wall", "FrameError", "BadOrder", "BadMake", "BadData", "is_whole", "is_sequence", "is_couple", "MOST_STATES", "MOST_PAIRS", "_check_parts", "_closed", "_check_closed", "_is_cover", "Order", "_law_mix", "_law_draw", "_law_shuffled", "_law_closed", "_law_order", "_law_exact", "_law_hand", "_law_seq", "_law_strict", "_law_state", "_law_due", "_law_told", "_law_spoilt", "_law_case", "_law_wholes"]
theorem run04 (w : World) : HandSHeadRun.RunEq R04 (PySem.W.view R04.prog [34]) hk04 ob04 3000 loose04 w := by
  intro os
  kernel_rfl
end Z
open PySem PySem.W PySem.Calls PyProof.Rows
theorem PySem.Challenge.cw_spentframes_k04_refused_orders_holds : PySem.Challenge.rw_spentframes_k04_refused_orders.Holds := by
  w_on; o_law
  refine HandSHeadRun.head_any (r := OpenLaw.row PySem.Challenge.rw_spentframes_k04_refused_orders) (q := view (OpenLaw.row PySem.Challenge.rw_spentframes_k04_refused_orders).prog [34]) (H := Z.hk04) (ob := Z.ob04) (M := 3000) (loose := Z.loose04) (d := HandSHeadRun.topDef (OpenLaw.row PySem.Challenge.rw_spentframes_k04_refused_orders).prog 34) (kwd := []) Z.ob04_eq
    (by kernel_rfl) (fun s => by kernel_rfl) Z.run04 (by kernel_rfl) (by kernel_rfl) (by kernel_rfl) (by rfl) (by first | assumption | decide +kernel) (by decide +kernel) ⟨rfl, rfl, rfl, rfl, rfl, by decide +kernel⟩ ?hw ?hc
  case hw => w_witness2
  case hc =>
    refine Z.run_walkE (l := PySem.Challenge.rw_spentframes_k04_refused_orders) (n := 63) (x := "script") rfl (by decide) (by kernel_rfl) ?F
    intro w mg fa h Y G hmg0
    obtain ⟨K, KX, c⟩ := Y
    have hmg : mg ("law" : PySem.Str) = some (.ref fa) := by
      have e : (HandSHeadRun.topDef (OpenLaw.row PySem.Challenge.rw_spentframes_k04_refused_orders).prog 34).name = ("law" : PySem.Str) := by kernel_rfl
      rw [← e]
      exact hmg0
    obtain ⟨fd, hb, hF⟩ := Z.facts (P := (PySem.Challenge.rw_spentframes_k04_refused_orders).prog) (w := w) KX G hmg c
    exact ⟨K, fd, Z.spLaw K, KX, hb, fun H a ns hl _ hS => ⟨a, ns, rfl, hS, hl, fun _ => rfl⟩, hF⟩
