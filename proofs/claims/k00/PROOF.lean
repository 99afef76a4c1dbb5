import PyProof.Rows.All
import Wide.All
import OpenK.AllK
import Wide.FinOn
import PyProof.EqAt
import PyProof.EqKinds
import PyProof.TupleCall
import HandS.Base
import HandS.Call
import HandS.List
import HandS.Comp
import HandS.Iter
import HandS.Ends
import HandS.Words
import HandS.WordsList
import HandS.IsInst
import HandS.Flow
import HandS.TupLe
import HandS.Defaults
import KE.GoesMore
import KE.GoesEnum
import PyProof.EnumMake
import PyProof.Draws
import HandS.Walk
import HandS.NoneIn
import HandS.TupAny
import HandS.Conv
import PySem.Challenge.RW_spentframes_k00_orders_by_all_pairs
import HandS.Exc
import HandS.ExcOwn
import HandS.ExcInit
import HandS.ExcField
import HandS.WordsExc
import HandS.OwnEq
import OpenK.KOps
import HandS.Deep
import PyProof.ReprRoads
import PyProof.ReprLen
import PyProof.Rows.RegStrFacts
import PyProof.CallFns
import KE.KStateDown
import HandS.Head0
import HandS.Head1
import HandS.Head2
import HandS.HeadEnd
import HandS.HeadHook1
import HandS.HeadHook2
set_option Elab.async false
set_option linter.all false
set_option maxRecDepth 100000
namespace Z
open PySem L2
/-- a def of the module that may be called, with its promise -/
structure Cal (P : Program) (w : World) (K : PySem.W.Frag) (mg : Str → Option Value) (base : Heap) (CX : CXT) (x : Str) (k : Nat) (sp : Sp) : Prop where
  ex : ∃ (f : Addr) (fd : FuncData) (ps : List Str), mg x = some (.ref f) ∧ PySem.W.keepIn K (.ref f) = true ∧ Binds K fd ps [] ∧ FnOk P w K mg base CX k f fd ps sp
section
variable {X : Cx} {CX : CXT} {x : Str} {k j : Nat} {sp : Sp} {E : XK} {e : Expr} {es : List Expr} {t : TA} {p pos : Pos}
theorem pe_calX (c : Cal X.prog X.w X.K X.mg X.base CX x k sp) (hr : Room k X.A) (hg : Gl X x) (hx : Passes CX X E) (ha : PA X (e :: es) t)
    (hdb : (x == ("__debug__" : Str)) = false := by decide) (he : starEach (e :: es) X.env = (false, eval e X.env) :: starEach es X.env := by rfl) (hpl : (backTo pos (starEach es X.env)).any (·.1) = false := by rfl) :
    PE X (.Call (.Name x p) (e :: es) [] pos) (tCall sp [] E t) := by
  obtain ⟨f, fd, ps, hm, hk, hb, F⟩ := c.ex
  exact pe_call F hr hg hm hk hb .nil hx ha hdb he hpl
theorem pe_cal (c : Cal X.prog X.w X.K X.mg X.base CX0 x k sp) (hr : Room k X.A) (hg : Gl X x) (ha : PA X (e :: es) t)
    (hdb : (x == ("__debug__" : Str)) = false := by decide) (he : starEach (e :: es) X.env = (false, eval e X.env) :: starEach es X.env := by rfl) (hpl : (backTo pos (starEach es X.env)).any (·.1) = false := by rfl) :
    PE X (.Call (.Name x p) (e :: es) [] pos) (tCall sp [] E0 t) := pe_calX c hr hg pass0 ha hdb he hpl
end
theorem iteB {b : Bool} {A B : Prop} (h1 : b = true → A) (h2 : b = false → B) : if b = true then A else B := by
  cases b with
  | true => exact iteT (h1 rfl)
  | false => exact iteF (h2 rfl)
theorem dec_i {i j : Int} : decide (V.int i = V.int j) = decide (i = j) := by
  rw [Bool.eq_iff_iff]
  simp
theorem dec_i_t {i j : Int} (h : decide (V.int i = V.int j) = true) : i = j := by
  rw [dec_i] at h
  exact of_decide_eq_true h
theorem dec_i_f {i j : Int} (h : decide (V.int i = V.int j) = false) : i ≠ j := by
  rw [dec_i] at h
  exact of_decide_eq_false h
/-- the names of built-ins that the law's text reads -/
structure Bl (mg : Str → Option Value) : Prop where
  n_len : mg "len" = none
  n_int : mg "int" = none
  n_abs : mg "abs" = none
  n_range : mg "range" = none
  n_enumerate : mg "enumerate" = none
  n_list : mg "list" = none
  n_tuple : mg "tuple" = none
  n_isinstance : mg "isinstance" = none
  n_bool : mg "bool" = none
  n_str : mg "str" = none
  n_any : mg "any" = none
  n_repr : mg "repr" = none
/-- all but the object at h as it was -/
def Keep (h : Addr) (H H' : Hp) : Prop := ∀ b o, H b = some o → b ≠ h → H' b = some o
theorem Keep.refl (h : Addr) (H : Hp) : Keep h H H := fun _ _ e _ => e
theorem Keep.trans {h : Addr} {H H1 H2 : Hp} (a : Keep h H H1) (b : Keep h H1 H2) : Keep h H H2 := fun c o e n => b c o (a c o e n) n
theorem Keep.of_same {h : Addr} {H H' : Hp} (s : Same H H') : Keep h H H' := fun b o e _ => s b o e
theorem Keep.upd {h : Addr} {H : Hp} {o : HO} : Keep h H (upd H h o) := fun b u e n => by rw [upd_ne n]; exact e
theorem same_new {H : Hp} {p : Addr} {o : HO} (n : H p = none) : Same H (upd H p o) := fun b u e => by rw [upd_ne (ne_of_none e n)]; exact e
theorem Keep.new {h : Addr} {H : Hp} {p : Addr} {o : HO} (n : H p = none) : Keep h H (L2.upd H p o) := .of_same (same_new n)
/-- the draws' hand, at h -/
structure Hnd (H : Hp) (h a : Addr) : Prop where
  ex : ∃ (cells : List Int) (i : Nat) (r t : Int), H h = some (.lst [.ref a, .int (i : Nat), .int r, .int t]) ∧ H a = some (.lst (cells.map V.int)) ∧ a ≠ h ∧ cells.length ≤ 63 ∧ (∀ c ∈ cells, 0 ≤ c) ∧ i ≤ cells.length ∧ 0 ≤ r ∧ 0 ≤ t ∧ t < 2147483549
theorem Hnd.same {H H' : Hp} {h a : Addr} (hn : Hnd H h a) (s : Same H H') : Hnd H' h a := by
  obtain ⟨cs, i, r, t, e1, e2, q⟩ := hn.ex
  exact ⟨cs, i, r, t, s _ _ e1, s _ _ e2, q⟩
theorem Hnd.new {H : Hp} {h a p : Addr} {o : HO} (hn : Hnd H h a) (n : H p = none) : Hnd (upd H p o) h a := hn.same (same_new n)
theorem Hnd.there {H : Hp} {h a : Addr} (hn : Hnd H h a) : ∃ o, H h = some o := by
  obtain ⟨cs, i, r, t, e1, _⟩ := hn.ex
  exact ⟨_, e1⟩
theorem Hnd.ne {H : Hp} {h a p : Addr} (hn : Hnd H h a) (n : H p = none) : p ≠ h := by
  obtain ⟨o, e⟩ := hn.there
  exact (ne_of_none e n).symm
theorem Hnd.nea {H : Hp} {h a p : Addr} (hn : Hnd H h a) (n : H p = none) : p ≠ a := by
  obtain ⟨cs, i, r, t, e1, e2, _⟩ := hn.ex
  exact (ne_of_none e2 n).symm
theorem Hnd.off {H : Hp} {h a p : Addr} {o : HO} (hn : Hnd H h a) (np : p ≠ h) (na : p ≠ a) : Hnd (upd H p o) h a := by
  obtain ⟨cs, i, r, t, e1, e2, q⟩ := hn.ex
  exact ⟨cs, i, r, t, by rw [upd_ne np.symm]; exact e1, by rw [upd_ne na.symm]; exact e2, q⟩
/-! ### promises of the drawing -/
def spMix : Sp := fun vs H Q _ => ∃ a b : Int, vs = [.int a, .int b] ∧ 0 ≤ a ∧ a < 2147483648 ∧ 0 ≤ b ∧ b < 2147483648 ∧ ∀ m : Int, 0 ≤ m → Q (.int m) H
def spDraw : Sp := fun vs H Q _ => ∃ (h a : Addr) (m : Int), vs = [.ref h, .int m] ∧ Hnd H h a ∧ 1 ≤ m ∧ m < 1073741824 ∧
  ∀ (d : Int) (H' : Hp), 0 ≤ d → d < m → Keep h H H' → Hnd H' h a → (∀ b, H b = none → H' b = none) → Q (.int d) H'
end Z

set_option Elab.async false
set_option linter.all false
set_option maxRecDepth 100000
namespace Z
open PySem L2
/-! ### data -/
mutual
theorem Dp.same {K : PySem.W.Frag} {H H' : Hp} (s : Same H H') : ∀ (d : PyData) (v : V), Dp K H v d → Dp K H' v d
  | .none, _, h => by cases h; exact .non
  | .bool b, _, h => by cases h; exact .bl b
  | .int i, _, h => by cases h; exact .int i
  | .str x, _, h => by cases h; exact .str x
  | .list ds, _, h => by
    cases h with
    | lst a b => exact .lst (s.seq a) (DpAll.same s ds _ b)
  | .tuple ds, _, h => by
    cases h with
    | tup a b => exact .tup (by
        rcases a with (a | ⟨o, a⟩) | a
        · exact .inl (.inl (s _ _ a))
        · exact .inl (.inr ⟨o, s _ _ a⟩)
        · exact .inr a) (DpAll.same s ds _ b)
  | .dict _, _, h => by cases h
theorem DpAll.same {K : PySem.W.Frag} {H H' : Hp} (s : Same H H') : ∀ (ds : List PyData) (vs : List V), DpAll K H vs ds → DpAll K H' vs ds
  | [], _, h => by cases h; exact .nil
  | d :: ds, _, h => by
    cases h with
    | cons a b => exact .cons (Dp.same s d _ a) (DpAll.same s ds _ b)
end
theorem Same.sqT {K : PySem.W.Frag} {H H' : Hp} {a : Addr} {xs : List V} (e : Same H H') (h : SqT K H a xs) : SqT K H' a xs := by
  rcases h with (h | ⟨o, h⟩) | h
  · exact .inl (.inl (e _ _ h))
  · exact .inl (.inr ⟨o, e _ _ h⟩)
  · exact .inr h
theorem DpAll.len {K : PySem.W.Frag} {H : Hp} : ∀ {ds : List PyData} {vs : List V}, DpAll K H vs ds → vs.length = ds.length
  | [], _, h => by cases h; rfl
  | d :: ds, _, h => by
    cases h with
    | cons a b => simp [DpAll.len b]
theorem DpAll.get {K : PySem.W.Frag} {H : Hp} : ∀ {ds : List PyData} {vs : List V} {i : Nat} {v : V}, DpAll K H vs ds → vs[i]? = some v → ∃ d, ds[i]? = some d ∧ Dp K H v d
  | [], _, i, v, h, e => by cases h; simp at e
  | d :: ds, _, 0, v, h, e => by
    cases h with
    | cons a b =>
      simp at e
      subst e
      exact ⟨d, rfl, a⟩
  | d :: ds, _, i + 1, v, h, e => by
    cases h with
    | cons a b =>
      obtain ⟨d', h1, h2⟩ := DpAll.get (i := i) (v := v) b (by simpa using e)
      exact ⟨d', by simpa using h1, h2⟩
theorem DpAll.get' {K : PySem.W.Frag} {H : Hp} : ∀ {ds : List PyData} {vs : List V} {i : Nat} {d : PyData}, DpAll K H vs ds → ds[i]? = some d → ∃ v, vs[i]? = some v ∧ Dp K H v d
  | [], _, i, v, h, e => by simp at e
  | d :: ds, _, 0, v, h, e => by
    cases h with
    | cons a b =>
      simp at e
      subst e
      exact ⟨_, rfl, a⟩
  | d :: ds, _, i + 1, v, h, e => by
    cases h with
    | cons a b =>
      obtain ⟨d', h1, h2⟩ := DpAll.get' (i := i) (d := v) b (by simpa using e)
      exact ⟨d', by simpa using h1, h2⟩
theorem DpAll.app {K : PySem.W.Frag} {H : Hp} : ∀ {ds es : List PyData} {vs ws : List V}, DpAll K H vs ds → DpAll K H ws es → DpAll K H (vs ++ ws) (ds ++ es)
  | [], _, _, _, h, g => by cases h; exact g
  | d :: ds, _, _, _, h, g => by
    cases h with
    | cons a b => exact .cons a (DpAll.app b g)
theorem DpAll.take {K : PySem.W.Frag} {H : Hp} : ∀ {ds : List PyData} {vs : List V} (n : Nat), DpAll K H vs ds → DpAll K H (vs.take n) (ds.take n)
  | _, _, 0, _ => by simpa using .nil
  | [], _, n + 1, h => by cases h; exact .nil
  | d :: ds, _, n + 1, h => by
    cases h with
    | cons a b => exact .cons a (DpAll.take n b)
theorem DpAll.drop {K : PySem.W.Frag} {H : Hp} : ∀ {ds : List PyData} {vs : List V} (n : Nat), DpAll K H vs ds → DpAll K H (vs.drop n) (ds.drop n)
  | _, _, 0, h => h
  | [], _, n + 1, h => by cases h; exact .nil
  | d :: ds, _, n + 1, h => by
    cases h with
    | cons a b => exact DpAll.drop n b
/-! ### kinds of data -/
def tyN : PyData → String
  | .none => "NoneType" | .bool _ => "bool" | .int _ => "int" | .str _ => "str" | .list _ => "list" | .tuple _ => "tuple" | .dict _ => "dict"
theorem ty_of_dp {K : PySem.W.Frag} {H : Hp} {d : PyData} {v : V} (h : Dp K H v d) : TyX K H v (.type (tyN d)) := by
  cases h with
  | non => exact .base .non
  | bl b => exact .base (.bl b)
  | int i => exact .base (.int i)
  | str x => exact .base (.str x)
  | lst a _ =>
    rcases a with (a | ⟨o, a⟩) | ⟨o, its, n, k, c, _⟩
    · exact .base (.lst a)
    · exact .base (.frz a)
    · exact .kList k c
  | tup a _ =>
    rcases a with (a | ⟨o, a⟩) | ⟨o, its, n, k, c, _⟩
    · exact .base (.tup a)
    · exact .fTuple a
    · exact .kTuple k c
def isB : PyData → Bool | .bool _ => true | _ => false
def isI : PyData → Bool | .bool _ => true | .int _ => true | _ => false
def isS : PyData → Bool | .str _ => true | _ => false
def isT : PyData → Bool | .tuple _ => true | _ => false
def isL : PyData → Bool | .list _ => true | _ => false
theorem kb_bool (d : PyData) : kitB (tyN d) "bool" = some (isB d) :=
  match d with
  | .none => (by decide +kernel : kitB "NoneType" "bool" = some false)
  | .bool _ => (by decide +kernel : kitB "bool" "bool" = some true)
  | .int _ => (by decide +kernel : kitB "int" "bool" = some false)
  | .str _ => (by decide +kernel : kitB "str" "bool" = some false)
  | .list _ => (by decide +kernel : kitB "list" "bool" = some false)
  | .tuple _ => (by decide +kernel : kitB "tuple" "bool" = some false)
  | .dict _ => (by decide +kernel : kitB "dict" "bool" = some false)
theorem kb_int (d : PyData) : kitB (tyN d) "int" = some (isI d) :=
  match d with
  | .none => (by decide +kernel : kitB "NoneType" "int" = some false)
  | .bool _ => (by decide +kernel : kitB "bool" "int" = some true)
  | .int _ => (by decide +kernel : kitB "int" "int" = some true)
  | .str _ => (by decide +kernel : kitB "str" "int" = some false)
  | .list _ => (by decide +kernel : kitB "list" "int" = some false)
  | .tuple _ => (by decide +kernel : kitB "tuple" "int" = some false)
  | .dict _ => (by decide +kernel : kitB "dict" "int" = some false)
theorem kb_str (d : PyData) : kitB (tyN d) "str" = some (isS d) :=
  match d with
  | .none => (by decide +kernel : kitB "NoneType" "str" = some false)
  | .bool _ => (by decide +kernel : kitB "bool" "str" = some false)
  | .int _ => (by decide +kernel : kitB "int" "str" = some false)
  | .str _ => (by decide +kernel : kitB "str" "str" = some true)
  | .list _ => (by decide +kernel : kitB "list" "str" = some false)
  | .tuple _ => (by decide +kernel : kitB "tuple" "str" = some false)
  | .dict _ => (by decide +kernel : kitB "dict" "str" = some false)
theorem kb_tuple (d : PyData) : kitB (tyN d) "tuple" = some (isT d) :=
  match d with
  | .none => (by decide +kernel : kitB "NoneType" "tuple" = some false)
  | .bool _ => (by decide +kernel : kitB "bool" "tuple" = some false)
  | .int _ => (by decide +kernel : kitB "int" "tuple" = some false)
  | .str _ => (by decide +kernel : kitB "str" "tuple" = some false)
  | .list _ => (by decide +kernel : kitB "list" "tuple" = some false)
  | .tuple _ => (by decide +kernel : kitB "tuple" "tuple" = some true)
  | .dict _ => (by decide +kernel : kitB "dict" "tuple" = some false)
theorem kb_list (d : PyData) : kitB (tyN d) "list" = some (isL d) :=
  match d with
  | .none => (by decide +kernel : kitB "NoneType" "list" = some false)
  | .bool _ => (by decide +kernel : kitB "bool" "list" = some false)
  | .int _ => (by decide +kernel : kitB "int" "list" = some false)
  | .str _ => (by decide +kernel : kitB "str" "list" = some false)
  | .list _ => (by decide +kernel : kitB "list" "list" = some true)
  | .tuple _ => (by decide +kernel : kitB "tuple" "list" = some false)
  | .dict _ => (by decide +kernel : kitB "dict" "list" = some false)
theorem ka_seq {K : PySem.W.Frag} {nm : String} {a b : Bool} (h1 : kitB nm "list" = some a) (h2 : kitB nm "tuple" = some b) : PySem.W.kitAny K (.type nm) [.type "list", .type "tuple"] = some (a || b) := by
  refine kitAny_cons (kit_ty h1) (fun e => ?_) (fun e => by rw [e]; rfl)
  refine kitAny_cons (kit_ty h2) (fun e2 => ?_) (fun e2 => by rw [e2]; simp)
  rw [e, e2]
  exact kitAny_nil
/-- a whole number within bounds -/
def whole (d : PyData) (lo hi : Option Int) : Bool :=
  match d with
  | .int i => (match lo with | some l => decide (l ≤ i) | none => true) && (match hi with | some u => decide (i ≤ u) | none => true)
  | _ => false
def oV : Option Int → V | some i => .int i | none => .non
def spWhole (K : PySem.W.Frag) : Sp := fun vs H Q _ => ∃ (x : V) (d : PyData) (lo hi : Option Int), vs = [x, oV lo, oV hi] ∧ Dp K H x d ∧ Q (.bl (whole d lo hi)) H
/-- what is_sequence is asked: data, or a dict -/
inductive AnyD (K : PySem.W.Frag) (H : Hp) : V → PyData → Prop
  | dp {v : V} {d : PyData} : Dp K H v d → AnyD K H v d
  | dk {a : Addr} : H a = some (.dK []) → AnyD K H (.ref a) (.dict [])
theorem ty_of_any {K : PySem.W.Frag} {H : Hp} {d : PyData} {v : V} (h : AnyD K H v d) : TyX K H v (.type (tyN d)) := by
  cases h with
  | dp h => exact ty_of_dp h
  | dk h => exact .base (.dK h)
theorem AnyD.same {K : PySem.W.Frag} {H H' : Hp} {d : PyData} {v : V} (s : Same H H') (h : AnyD K H v d) : AnyD K H' v d := by
  cases h with
  | dp h => exact .dp (Dp.same s _ _ h)
  | dk h => exact .dk (s _ _ h)
def isSeq (d : PyData) : Bool := isL d || isT d
def spSeq (K : PySem.W.Frag) : Sp := fun vs H Q _ => ∃ (x : V) (d : PyData), vs = [x] ∧ AnyD K H x d ∧ ∀ H', Same H H' → Q (.bl (isSeq d)) H'
def seqOf : PyData → Option (List PyData) | .list ds => some ds | .tuple ds => some ds | _ => none
def couple (d : PyData) (high : Int) : Bool :=
  match seqOf d with
  | some [a, b] => whole a (some 0) (some high) && whole b (some 0) (some high)
  | _ => false
def spCouple (K : PySem.W.Frag) : Sp := fun vs H Q _ => ∃ (x : V) (d : PyData) (hi : Int), vs = [x, .int hi] ∧ Dp K H x d ∧ ∀ H', Same H H' → Q (.bl (couple d hi)) H'
theorem seq_dp {K : PySem.W.Frag} {H : Hp} {d : PyData} {v : V} (h : Dp K H v d) (hs : isSeq d = true) : ∃ (p : Addr) (ys : List V) (ds : List PyData), v = .ref p ∧ (SqL K H p ys ∨ SqT K H p ys) ∧ DpAll K H ys ds ∧ seqOf d = some ds := by
  cases h with
  | lst a b => exact ⟨_, _, _, rfl, .inl a, b, rfl⟩
  | tup a b => exact ⟨_, _, _, rfl, .inr a, b, rfl⟩
  | _ => cases hs
theorem seq_not {d : PyData} (hs : isSeq d = false) : seqOf d = none := by
  cases d with
  | list _ => cases hs
  | tuple _ => cases hs
  | _ => rfl
theorem couple_no {d : PyData} {hi : Int} (hs : isSeq d = false) : couple d hi = false := by
  unfold couple
  rw [seq_not hs]
theorem couple_len {d : PyData} {hi : Int} {ds : List PyData} (hs : seqOf d = some ds) (hl : ds.length ≠ 2) : couple d hi = false := by
  unfold couple
  rw [hs]
  match ds, hl with
  | [], _ => rfl
  | [_], _ => rfl
  | [_, _], h => exact absurd rfl h
  | _ :: _ :: _ :: _, _ => rfl
theorem couple_two {d a b : PyData} {hi : Int} (hs : seqOf d = some [a, b]) : couple d hi = (whole a (some 0) (some hi) && whole b (some 0) (some hi)) := by
  unfold couple
  rw [hs]
theorem two_of {α : Type} {l : List α} (h : l.length = 2) : ∃ a b, l = [a, b] := by
  match l, h with
  | [a, b], _ => exact ⟨a, b, rfl⟩
end Z

set_option Elab.async false
set_option linter.all false
set_option maxRecDepth 100000
namespace PySem
set_option maxHeartbeats 1200000 in
/-- enumerate(v) of whatever begins: its two new cells -/
theorem enu_meets {v : Value} {o : Obj} {G : Heap → Prop} (B : Begins v o G) : Meets (Builtin.«enumerate.__new__» ⟨[.type "enumerate", v], []⟩)
    (fun _ R s => G s.heap ∧ R (.ok (.ret (.ref (s.heap.push o).objs.size)))
      { s with heap := (s.heap.push o).push { cls := .type "enumerate", data := .fields #[.none, .bool false, .ref s.heap.objs.size, rawInt 0, .none, .none] } }) :=
  .of_wp fun prog w A R s0 hg => by
    obtain ⟨hp, gs, dr, tk, os⟩ := s0
    obtain ⟨g1, hR⟩ := hg
    have hsub := sub_enumerate
    have go : ∀ {A' : Around} {E : Value → Shared → Prop} {Q : Value → Shared → Prop}, Q (.ref hp.objs.size) ⟨hp.push o, gs, dr, tk, os⟩ →
        wpAny (model prog w) A' (pyIter v) Q E ⟨hp, gs, dr, tk, os⟩ := fun q => B.iter prog w _ _ ⟨hp, gs, dr, tk, os⟩ _ g1 q
    wp_walk using go
    refine wpAny_stack_any fun st => wpAny_pure ?_
    split
    · rename_i c _ _ _ _ _
      cases (c == Value.type "enumerate") <;> (wp_walk using go; exact ⟨_, rfl, hR⟩)
    · wp_walk using go
      exact ⟨_, rfl, hR⟩
theorem enu_call {prog : Program} {w : World} {A : Around} {E : Value → Shared → Prop} {s : Shared} {v : Value} {o : Obj} {G : Heap → Prop} {Q : Value → Shared → Prop} (B : Begins v o G) (g1 : G s.heap)
    (k : ∀ h2, IsEnum h2 (s.heap.objs.size + 1) s.heap.objs.size 0 .none → h2.get? s.heap.objs.size = some o → (∀ b u, s.heap.get? b = some u → h2.get? b = some u) → Q (.ref (s.heap.objs.size + 1)) { s with heap := h2 }) :
    wpAny (model prog w) A (call (.type "enumerate") [v]) Q E s := by
  have sz1 : (s.heap.push o).objs.size = s.heap.objs.size + 1 := Heap.size_push ..
  refine callType_new F.called_enumerate (by decide) (F.typeCall_enumerate_1 _) (F.newCall_enumerate_1 _) (fun obj => F.args_object_init_2 obj _) F.entry_enumerate_new (enu_meets B) ⟨g1, ?_⟩
  show _ ∧ _
  rw [sz1]
  have en : IsEnum ((s.heap.push o).push { cls := .type "enumerate", data := .fields #[.none, .bool false, .ref s.heap.objs.size, rawInt 0, .none, .none] }) (s.heap.objs.size + 1) s.heap.objs.size 0 .none := by
    have z := Heap.get?_push_size (s.heap.push o) (o := { cls := .type "enumerate", data := .fields #[.none, .bool false, .ref s.heap.objs.size, rawInt 0, .none, .none] }) rfl
    rw [sz1] at z
    exact z
  refine ⟨⟨_, en, rfl⟩, k _ en ?_ ?_⟩
  · exact Heap.get?_push_of_some _ (Heap.get?_push_size _ B.free)
  · exact fun b u e => Heap.get?_push_of_some _ (Heap.get?_push_of_some _ e)
end PySem

namespace Z
open PySem L2 PySem.Spec PyProof.Rows
/-- enumerate of the tuple at a: each item in a new pair -/
def ItU (K : PySem.W.Frag) (a : Addr) : It where
  go i H := ∃ (xs : List V) (x : V), SqT K H a xs ∧ xs[i]? = some x
  yld i H v H' := ∃ T x, v = .ref T ∧ H T = none ∧ H' = upd H T (.tup [.int (i : Nat), x]) ∧ ∀ xs, SqT K H a xs → xs[i]? = some x
  stop i H := ∃ xs : List V, SqT K H a xs ∧ xs.length = i
theorem turn_U {P : Program} {w : World} {K : PySem.W.Frag} {elts : List Expr} {kk : Nat} {tpos : Pos} (a e it : Addr) :
    Turn P w K (.Tuple elts kk tpos) (ItU K a) [e, it] e (fun i h => (∃ old, IsEnum h e it ((i : Nat) : Int) old) ∧ h.IsTupleIter it a i ∧ e ≠ it ∧ a ≠ it) where
  mem := List.mem_cons_self
  obj := by
    intro i h st b hb
    obtain ⟨⟨old, he⟩, ⟨o, ho, hc, hd⟩, _⟩ := st
    rcases List.mem_cons.mp hb with rfl | hb
    · exact ⟨_, he, fun v q => nomatch q⟩
    · obtain rfl := List.mem_singleton.mp hb
      exact ⟨o, ho, fun v q => by rw [hd] at q; cases q⟩
  keep := by
    intro i h h' st kp
    obtain ⟨⟨old, he⟩, hi, hne, hna⟩ := st
    exact ⟨⟨old, kp e (by simp) _ he⟩, hi.at fun o q => kp it (by simp) o q, hne, hna⟩
  item := by
    intro X hP hw hK hc i pins s σ H E I hf st hg
    subst hP hw hK
    obtain ⟨⟨old, he⟩, hit, hne, hna⟩ := st
    obtain ⟨xs, x, hq, hx⟩ := hg
    obtain ⟨its, rv, tp, _⟩ := I.tuple hq
    obtain ⟨u, hu, ru⟩ := rv.get hx
    have tp' : s.heap.IsTuple a its.toArray := tp
    have hel : e < s.heap.objs.size := Heap.lt_size he
    have hil : it < s.heap.objs.size := by
      obtain ⟨_, q, _⟩ := hit
      exact Heap.lt_size q
    have hilt : i < its.toArray.size := by
      have z := (List.getElem?_eq_some_iff.mp hu).1
      simpa using z
    have hal : a ≠ e := fun z => by
      obtain ⟨o, q1, q2, _⟩ := tp'
      rw [z, he] at q1
      cases q1
      have q3 : Value.type "enumerate" = Value.type "tuple" := q2
      exact absurd (Value.type.inj q3) (by decide)
    refine wpAny_pyNext_enum_itemD (Draws.tuple (A := X.A.in1) (show X.A.in1.handled = none from I.ok.hd hc) it a hna its.toArray) he ⟨hit, tp'⟩ hilt hne (by simp [hne, Ne.symm hal]) fun y h' tk hy ho hst hT hsz hk => ?_
    obtain ⟨hit', _⟩ := hst
    have ey : y = u := by
      have z : its[i]? = some y := by simpa using hy
      rw [hu] at z
      exact (Option.some.inj z).symm
    subst ey
    refine ⟨_, rfl, wpAny_letOwnedTupleGo_enum (s := { s with heap := h', toks := tk + 1 }) ho fun h2 he2 sb => ?_⟩
    have hT2 : h2.get? s.heap.objs.size = some { cls := .type "tuple", data := .seq #[.int i tk, y] } := (sb.2 _ (Nat.ne_of_gt hel)).trans hT
    have new : ObjOk X.prog X.w (upd H s.heap.objs.size (.tup [.int (i : Nat), x])) h2 s.heap.objs.size (.tup [.int (i : Nat), x]) := by
      refine ⟨by show 2 ≤ sizeLine; decide, [.int i tk, y], ?_, ⟨_, hT2, rfl, _, rfl⟩⟩
      exact .cons ⟨_, rfl⟩ (.cons ru .nil)
    have I1 : Inv X pins σ (upd H s.heap.objs.size (.tup [.int (i : Nat), x])) { s with heap := h2, toks := tk + 1 } := by
      refine I.turnedNew (ch := [e, it]) (fun b ob hb q => ?_) hf (Nat.le_refl _) new
      have b1 : b ≠ e := fun z => hb (by simp [z])
      have b2 : b ≠ it := fun z => hb (by simp [z])
      exact (sb.2 b b1).trans (hk b ob b1 b2 q)
    refine ⟨.ref s.heap.objs.size, _, I1, rfl, ⟨_, x, rfl, I.hok.fresh (Nat.le_refl _), rfl, fun ys hy => ?_⟩, ⟨⟨y, ?_⟩, hit'.at fun o q => (sb.2 it (Ne.symm hne)).trans q, hne, hna⟩, fun b hb => ?_⟩
    · rw [I.tuple_inj hy hq]
      exact hx
    · have e1 : ((i + 1 : Nat) : Int) = (i : Int) + 1 := by omega
      rw [e1]
      exact he2
    · have hb' : b < s.heap.objs.size := by
        rcases List.mem_cons.mp hb with z | z
        · rw [z]
          exact hel
        · rw [List.mem_singleton.mp z]
          exact hil
      rw [upd_ne (Nat.ne_of_lt hb')]
      exact (hf b hb).1
  done := by
    intro X hP hw hK hc i pins s σ H E I hf st hg
    subst hP hw hK
    obtain ⟨⟨old, he⟩, hit, hne, hna⟩ := st
    obtain ⟨xs, hq, hx⟩ := hg
    obtain ⟨its, rv, tp, _⟩ := I.tuple hq
    obtain ⟨f0, f1, f2, f3, f4, f5⟩ := hf it (by simp)
    have hl : its.toArray.size = i := by
      rw [List.size_toArray, ← rv.length]
      exact hx
    refine wpAny_pyNext_enum_endD (Draws.tuple (A := X.A.in1) (show X.A.in1.handled = none from I.ok.hd hc) it a hna its.toArray) he ⟨?_, tp⟩ fun h' eb => ⟨rfl, I.turned (t' := s.toks) (fun b o hb q => eb b o hb q) f0 f1 f3 f4 f5⟩
    rw [hl]
    exact hit
  self := fun A i s Q E st q => by
    obtain ⟨⟨_, he⟩, _⟩ := st
    exact wpAny_pyIter_enum he q
def iEnumT (K : PySem.W.Frag) (ta : TA) : TI := fun σ H R => ta σ H fun vs H1 => ∃ (a : Addr) (xs : List V), vs = [.ref a] ∧ SqT K H1 a xs ∧ R (ItU K a) H1
set_option maxHeartbeats 2100000 in
theorem pi_enumT {X : Cx} {e : Expr} {ta : TA} {p pos tpos : Pos} {elts : List Expr} {kk : Nat} (hg : Gl X "enumerate") (hm : X.mg "enumerate" = none) (ha : PA X [e] ta) (hs : starEach [e] X.env = [(false, eval e X.env)] := by rfl) :
    PI X (.Tuple elts kk tpos) (.Call (.Name "enumerate" p) [e] [] pos) (iEnumT X.K ta) := by
  constructor
  intro pins s σ H R I hw
  refine Call_ (ld_blt I hg hm boot_enumerate (PyProof.Rows.callWith_type1 (thn (ha.run pos pins s σ H _ I hw) fun us s1 ⟨vs, H1, I1, r1, q1⟩ => ?_) hs rfl))
  obtain ⟨a, xs, rfl, hq, q⟩ := q1
  cases r1 with
  | cons r rr =>
    cases rr
    cases r
    obtain ⟨its, rv, tp, _⟩ := I1.tuple hq
    obtain ⟨ot, q1, q2, q3⟩ := id tp
    refine enu_call (begins_tuple a its.toArray) (show s1.heap.IsTuple a its.toArray from tp) fun h2 he hit hk => wpAny_pyIter_enum he ?_
    have I2 : Inv X pins σ H1 { s1 with heap := h2 } := I1.kept (t' := s1.toks) hk
    have hna : a ≠ s1.heap.objs.size := Nat.ne_of_lt (Heap.lt_size q1)
    refine ⟨s1.heap.objs.size + 1, [s1.heap.objs.size + 1, s1.heap.objs.size], _, _, H1, rfl, I2, turn_U a (s1.heap.objs.size + 1) s1.heap.objs.size, ⟨⟨.none, he⟩, ⟨_, hit, rfl, rfl⟩, Nat.succ_ne_self _, hna⟩, fun b hb => ?_, q⟩
    have hle : s1.heap.objs.size ≤ b := by
      rcases List.mem_cons.mp hb with z | z
      · rw [z]
        exact Nat.le_succ _
      · rw [List.mem_singleton.mp z]
        exact Nat.le_refl _
    exact I1.fpOk hle (I1.hok.fresh hle)
/-- a loop over any walk: an invariant by turns -/
theorem walk_enumT {K : PySem.W.Frag} {a : Addr} {xs : List V} : Walk (ItU K a) xs.length (fun H => SqT K H a xs) (YPair (fun i => some (.int (i : Nat))) (fun i => xs[i]?)) where
  goes := by
    intro i H hi hg
    exact ⟨xs, xs[i], hg, by simp [hi]⟩
  stops := by
    intro H hg
    exact ⟨xs, hg, rfl⟩
  yields := by
    intro i H v H' hi hg hy
    obtain ⟨T, x, ev, hT, eH, hx⟩ := hy
    exact ⟨T, _, x, ev, hT, eH, rfl, hx xs hg⟩
/-- enumerate of a list or of a tuple -/
structure EnA (K : PySem.W.Frag) (ta : TA) (σ : L2.St) (H : Hp) (R : It → Hp → Prop) : Prop where
  or : iEnum K ta σ H R ∨ iEnumT K ta σ H R
theorem pi_enumA {X : Cx} {e : Expr} {ta : TA} {p pos tpos : Pos} {elts : List Expr} {kk : Nat} (hg : Gl X "enumerate") (hm : X.mg "enumerate" = none) (ha : PA X [e] ta) (hs : starEach [e] X.env = [(false, eval e X.env)] := by rfl) :
    PI X (.Tuple elts kk tpos) (.Call (.Name "enumerate" p) [e] [] pos) (EnA X.K ta) :=
  ⟨fun pins s σ H R I h => h.or.elim (fun q => (pi_enum hg hm ha hs).run pins s σ H R I q) (fun q => (pi_enumT hg hm ha hs).run pins s σ H R I q)⟩
/-- what a for asks of the walk J -/
def forR (g : TG) (tb : TS) (D : Ends) (σ : L2.St) (J : It) (H1 : Hp) : Prop := ∃ W : Nat → Nat → L2.St → Hp → Prop, (∃ m, W 0 m σ H1) ∧ ∀ i m σ H, W i m σ H →
  (J.stop i H ∧ D.nx σ H) ∨ (J.go i H ∧ ∃ N : L2.St → Hp → Prop, (∀ σ' H', N σ' H' → ∃ m', m' < m ∧ W (i + 1) m' σ' H') ∧ ∀ x H', J.yld i H x H' → g x σ H' fun σ2 H2 => tb { D with nx := N, ct := N, bk := D.nx } σ2 H2)
theorem for_enumA {K : PySem.W.Frag} {i0 : Nat} {a : Addr} {xs : List V} {g : TG} {tb : TS} {D : Ends} {σ : L2.St} {H : Hp} (hq : SqL K H a xs ∨ SqT K H a xs) (Pv : Nat → L2.St → Hp → Prop) (h0 : Pv 0 σ H)
    (hG : ∀ i σ H', Pv i σ H' → Same H H')
    (hs : ∀ i x T σ H', xs[i]? = some x → Pv i σ H' → H' T = none → g (.ref T) σ (upd H' T (.tup [.int (i : Nat), x])) fun σ2 H2 => tb { D with nx := Pv (i + 1), ct := Pv (i + 1), bk := D.nx } σ2 H2)
    (hd : ∀ σ H', Pv xs.length σ H' → D.nx σ H') :
    σ[i0]? = some (some (V.ref a)) → EnA K (tCons (tVar i0) tNil) σ H (fun J H1 => forR g tb D σ J H1) := by
  intro e0
  refine ⟨?_⟩
  rcases hq with hq | hq
  · refine .inl ⟨_, e0, a, xs, rfl, hq, for_it (walk_enum (K := K) (a := a) (xs := xs)) Pv h0 (fun i σ H' _ p => (hG i σ H' p).seq hq) (fun i v σ H1 H2 hi p y => ?_) hd⟩
    obtain ⟨T, x, y, rfl, hT, rfl, e1, e2⟩ := y
    cases e1
    exact hs i y T σ H1 e2 p hT
  · refine .inr ⟨_, e0, a, xs, rfl, hq, for_it (walk_enumT (K := K) (a := a) (xs := xs)) Pv h0 (fun i σ H' _ p => by
      rcases hq with (h | ⟨o, h⟩) | h
      · exact .inl (.inl (hG i σ H' p _ _ h))
      · exact .inl (.inr ⟨o, hG i σ H' p _ _ h⟩)
      · exact .inr h) (fun i v σ H1 H2 hi p y => ?_) hd⟩
    obtain ⟨T, x, y, rfl, hT, rfl, e1, e2⟩ := y
    cases e1
    exact hs i y T σ H1 e2 p hT
end Z

set_option Elab.async false
set_option linter.all false
set_option maxRecDepth 100000
namespace Z
open PySem L2
theorem same_mut {H H' : Hp} {p : Addr} {o : HO} (e : Same H H') (h : H p = none) : Same H (upd H' p o) := fun a u ha => by
  rw [upd_ne (ne_of_none ha h)]
  exact e a u ha
theorem ne_of_none' {H : Hp} {a b : Addr} {o : HO} (h : H a = some o) (h' : H b = none) : b ≠ a := (ne_of_none h h').symm
/-! ### a walk of a list or of a tuple; an unpacking of either -/
structure ItA (K : PySem.W.Frag) (tl : TE) (σ : L2.St) (H : Hp) (R : It → Hp → Prop) : Prop where
  or : iList K tl σ H R ∨ iTup K tl σ H R
theorem pi_seqA {X : Cx} {tg l : Expr} {tl : TE} (hl : PE X l tl) : PI X tg l (ItA X.K tl) :=
  ⟨fun pins s σ H R I h => h.or.elim (fun q => (pi_list hl).run pins s σ H R I q) (fun q => (pi_tup hl).run pins s σ H R I q)⟩
theorem for_seqA {K : PySem.W.Frag} {i0 : Nat} {a : Addr} {xs : List V} {g : TG} {tb : TS} {D : Ends} {σ : L2.St} {H H0 : Hp} (hq : SqL K H0 a xs ∨ SqT K H0 a xs) (Pv : Nat → L2.St → Hp → Prop) (h0 : Pv 0 σ H)
    (hG : ∀ i σ H', Pv i σ H' → Same H0 H')
    (hs : ∀ i x σ H', xs[i]? = some x → Pv i σ H' → g x σ H' fun σ2 H2 => tb { D with nx := Pv (i + 1), ct := Pv (i + 1), bk := D.nx } σ2 H2)
    (hd : ∀ σ H', Pv xs.length σ H' → D.nx σ H') :
    σ[i0]? = some (some (V.ref a)) → ItA K (tVar i0) σ H (fun J H1 => forR g tb D σ J H1) := by
  intro e0
  refine ⟨?_⟩
  rcases hq with hq | hq
  · exact .inl ⟨_, e0, a, rfl, ⟨xs, (hG 0 σ H h0).seq hq⟩, for_it (walk_list (K := K) (a := a) (xs := xs)) Pv h0 (fun i σ H' _ p => (hG i σ H' p).seq hq) (fun i v σ H1 H2 hi p y => by
      obtain ⟨rfl, e⟩ := y
      exact hs i v σ _ e p) hd⟩
  · exact .inr ⟨_, e0, a, rfl, ⟨xs, Same.sqT (hG 0 σ H h0) hq⟩, for_it (walk_tup (K := K) (a := a) (xs := xs)) Pv h0 (fun i σ H' _ p => Same.sqT (hG i σ H' p) hq) (fun i v σ H1 H2 hi p y => by
      obtain ⟨rfl, e⟩ := y
      exact hs i v σ _ e p) hd⟩
structure GuA (K : PySem.W.Frag) (n : Nat) (t : TGs) (v : V) (σ : L2.St) (H : Hp) (Q : L2.St → Hp → Prop) : Prop where
  or : gTup K n t v σ H Q ∨ gUnl K n t v σ H Q
theorem pg_unA {X : Cx} {es : List Expr} {k : Nat} {t : TGs} {n : Nat} {pos : Pos} (hc : X.calm = true) (h : PGs X es t)
    (hn : (assignEach es X.env).length = n := by rfl) (hst : (assignEach es X.env).findIdx? (·.1) = none := by rfl) : PG X (.Tuple es k pos) (GuA X.K n t) :=
  ⟨fun pins s σ H v u Q I r hw => hw.or.elim (fun q => (pg_tup hc h hn hst).run pins s σ H v u Q I r q) (fun q => (pg_unl hc h hn hst).run pins s σ H v u Q I r q)⟩
theorem ixN_nat {n y : Nat} (h : y < n) : ixN n (y : Int) = some y := by
  unfold ixN
  rw [if_pos (by omega), if_pos (by omega)]
  simp
/-! ### a square of truth values -/
def rowV (n : Nat) (f : Nat → Bool) : List V := (List.range n).map fun y => V.bl (f y)
theorem rowV_len {n : Nat} {f : Nat → Bool} : (rowV n f).length = n := by simp [rowV]
theorem rowV_get {n y : Nat} {f : Nat → Bool} (h : y < n) : (rowV n f)[y]? = some (.bl (f y)) := by simp [rowV, h]
theorem rowV_at {n y : Nat} {f : Nat → Bool} (h : y < n) : atI (rowV n f) (y : Int) = some (.bl (f y)) := atI_nat (rowV_get h)
theorem rowV_congr {n : Nat} {f g : Nat → Bool} (h : ∀ y, y < n → f y = g y) : rowV n f = rowV n g := by
  unfold rowV
  refine List.map_congr_left fun y hy => ?_
  rw [h y (List.mem_range.mp hy)]
theorem rowV_set {n y : Nat} {f : Nat → Bool} {b : Bool} (h : y < n) : (rowV n f).set y (.bl b) = rowV n (fun z => if z = y then b else f z) := by
  refine List.ext_getElem? fun z => ?_
  by_cases hz : z < n
  · rw [rowV_get hz]
    by_cases e : z = y
    · subst e
      rw [List.getElem?_set_self (by rw [rowV_len]; exact hz), if_pos rfl]
    · rw [List.getElem?_set_ne (Ne.symm e), rowV_get hz, if_neg e]
  · have h1 : (rowV n f).length ≤ z := by rw [rowV_len]; omega
    have h2 : (rowV n (fun z => if z = y then b else f z)).length ≤ z := by rw [rowV_len]; omega
    rw [List.getElem?_eq_none (by rw [List.length_set]; exact h1), List.getElem?_eq_none h2]
theorem rowV_rep {n : Nat} : (List.replicate n [V.bl false]).flatten = rowV n (fun _ => false) := by
  unfold rowV
  induction n with
  | zero => rfl
  | succ n ih =>
    rw [List.replicate_succ, List.flatten_cons, ih, List.range_succ_eq_map, List.map_cons, List.map_map]
    rfl
theorem rowV_snoc {n : Nat} {f : Nat → Bool} : rowV n f ++ [.bl (f n)] = rowV (n + 1) f := by
  unfold rowV
  rw [List.range_succ, List.map_append]
  rfl
structure MatAt (H : Hp) (p : Addr) (n : Nat) (M : Nat → Nat → Bool) (rs : List Addr) : Prop where
  top : H p = some (.lst (rs.map V.ref))
  len : rs.length = n
  row : ∀ x r, rs[x]? = some r → H r = some (.lst (rowV n (M x)))
  nd : rs.Nodup
  np : p ∉ rs
theorem MatAt.same {H H' : Hp} {p : Addr} {n : Nat} {M : Nat → Nat → Bool} {rs : List Addr} (m : MatAt H p n M rs) (s : Same H H') : MatAt H' p n M rs :=
  ⟨s _ _ m.top, m.len, fun x r e => s _ _ (m.row x r e), m.nd, m.np⟩
theorem MatAt.get {H : Hp} {p : Addr} {n : Nat} {M : Nat → Nat → Bool} {rs : List Addr} (m : MatAt H p n M rs) {x : Nat} (hx : x < n) : ∃ r, rs[x]? = some r ∧ atI (rs.map V.ref) (x : Int) = some (.ref r) ∧ H r = some (.lst (rowV n (M x))) := by
  have hl : x < rs.length := by rw [m.len]; exact hx
  have e : rs[x]? = some rs[x] := by simp [hl]
  exact ⟨rs[x], e, atI_nat (by rw [List.getElem?_map, e]; rfl), m.row x _ e⟩
theorem nodup_ix2 {l : List Addr} (nd : l.Nodup) {i j : Nat} {r : Addr} (h1 : l[i]? = some r) (h2 : l[j]? = some r) : i = j := by
  obtain ⟨a, e1⟩ := List.getElem?_eq_some_iff.mp h1
  obtain ⟨b, e2⟩ := List.getElem?_eq_some_iff.mp h2
  exact (List.getElem_inj nd).mp (e1.trans e2.symm)
theorem MatAt.congr {H : Hp} {p : Addr} {n : Nat} {M M' : Nat → Nat → Bool} {rs : List Addr} (m : MatAt H p n M rs) (h : ∀ x y, x < n → y < n → M x y = M' x y) : MatAt H p n M' rs :=
  ⟨m.top, m.len, fun x r e => by
    have hx : x < n := by
      have := (List.getElem?_eq_some_iff.mp e).1
      rw [m.len] at this
      exact this
    rw [m.row x r e, rowV_congr fun y hy => h x y hx hy], m.nd, m.np⟩
def setM (M : Nat → Nat → Bool) (x y : Nat) (b : Bool) : Nat → Nat → Bool := fun a c => if a = x then (if c = y then b else M x c) else M a c
theorem MatAt.put {H : Hp} {p : Addr} {n : Nat} {M : Nat → Nat → Bool} {rs : List Addr} (m : MatAt H p n M rs) {x y : Nat} {r : Addr} {b : Bool} (hr : rs[x]? = some r) (hy : y < n) : MatAt (upd H r (.lst ((rowV n (M x)).set y (.bl b)))) p n (setM M x y b) rs := by
  have hm : r ∈ rs := List.mem_of_getElem? hr
  refine ⟨?_, m.len, fun a r' e => ?_, m.nd, m.np⟩
  · rw [upd_ne (fun z => m.np (by rw [z]; exact hm))]
    exact m.top
  · by_cases ha : a = x
    · subst ha
      rw [e] at hr
      cases hr
      rw [upd_same, rowV_set hy]
      refine congrArg (fun l => some (HO.lst l)) (rowV_congr fun c _ => ?_)
      unfold setM
      rw [if_pos rfl]
    · have ne : r' ≠ r := fun z => ha (nodup_ix2 m.nd e (z ▸ hr))
      rw [upd_ne ne, m.row a r' e]
      refine congrArg (fun l => some (HO.lst l)) (rowV_congr fun c _ => ?_)
      unfold setM
      rw [if_neg ha]
theorem MatAt.swap {H : Hp} {p D : Addr} {n : Nat} {M : Nat → Nat → Bool} {rs : List Addr} (m : MatAt H p n M rs) {x : Nat} {f : Nat → Bool} (hD : H D = some (.lst (rowV n f))) (nD : D ∉ rs) (np : D ≠ p) :
    MatAt (upd H p (.lst ((rs.map V.ref).set x (.ref D)))) p n (fun a => if a = x then f else M a) (rs.set x D) := by
  refine ⟨?_, by rw [List.length_set]; exact m.len, fun a r e => ?_, ?_, ?_⟩
  · rw [upd_same, List.map_set]
  · have hr : r ≠ p := by
      intro z
      have hm := List.mem_of_getElem? e
      rcases List.mem_or_eq_of_mem_set hm with h | h
      · exact m.np (z ▸ h)
      · exact np (h ▸ z)
    rw [upd_ne hr]
    by_cases ha : a = x
    · subst ha
      have hl : a < rs.length := by
        have := (List.getElem?_eq_some_iff.mp e).1
        rw [List.length_set] at this
        exact this
      rw [List.getElem?_set_self hl] at e
      cases e
      rw [if_pos rfl]
      exact hD
    · rw [List.getElem?_set_ne (Ne.symm ha)] at e
      rw [if_neg ha]
      exact m.row a r e
  · by_cases hl : x < rs.length
    · refine List.pairwise_iff_getElem.mpr fun i j hi hj hij => ?_
      rw [List.getElem_set, List.getElem_set]
      rw [List.length_set] at hi hj
      have nd := List.pairwise_iff_getElem.mp m.nd i j hi hj hij
      by_cases e1 : x = i
      · rw [if_pos e1, if_neg (by omega)]
        intro z
        exact nD (z ▸ List.getElem_mem hj)
      · rw [if_neg e1]
        by_cases e2 : x = j
        · rw [if_pos e2]
          intro z
          exact nD (z ▸ List.getElem_mem hi)
        · rw [if_neg e2]
          exact nd
    · rw [List.set_eq_of_length_le (by omega)]
      exact m.nd
  · intro z
    rcases List.mem_or_eq_of_mem_set z with h | h
    · exact m.np h
    · exact np h.symm
/-! ### the closing of a relation -/
def relax (M : Nat → Nat → Bool) (mid low : Nat) : Nat → Nat → Bool := if M low mid then (fun a => if a = low then (fun b => M low b || M mid b) else M a) else M
def relaxes (M : Nat → Nat → Bool) (mid : Nat) : Nat → (Nat → Nat → Bool)
  | 0 => M
  | k + 1 => relax (relaxes M mid k) mid k
def closeM (n : Nat) (M : Nat → Nat → Bool) : Nat → (Nat → Nat → Bool)
  | 0 => M
  | k + 1 => relaxes (closeM n M k) k n
def prOf (d : PyData) : Nat × Nat :=
  match seqOf d with
  | some [.int a, .int b] => (a.toNat, b.toNat)
  | _ => (0, 0)
def initM (prs : List (Nat × Nat)) : Nat → Nat → Bool := fun a b => decide ((a, b) ∈ prs)
theorem initM_snoc {prs : List (Nat × Nat)} {x y : Nat} : setM (initM prs) x y true = initM (prs ++ [(x, y)]) := by
  funext a b
  unfold setM initM
  by_cases ha : a = x
  · subst ha
    by_cases hb : b = y
    · subst hb
      simp
    · simp [hb]
  · simp [ha]
theorem couple_ok {d : PyData} {hi : Int} (h : couple d hi = true) : ∃ a b : Nat, seqOf d = some [.int a, .int b] ∧ prOf d = (a, b) ∧ (a : Int) ≤ hi ∧ (b : Int) ≤ hi := by
  unfold couple at h
  cases hs : seqOf d with
  | none =>
    rw [hs] at h
    cases h
  | some l =>
    rw [hs] at h
    match l, h with
    | [u, v], h =>
      have h' : (whole u (some 0) (some hi) && whole v (some 0) (some hi)) = true := h
      rw [Bool.and_eq_true] at h'
      obtain ⟨h1, h2⟩ := h'
      cases u with
      | int i =>
        cases v with
        | int j =>
          simp only [whole, Bool.and_eq_true, decide_eq_true_eq] at h1 h2
          have ei : ((i.toNat : Nat) : Int) = i := by omega
          have ej : ((j.toNat : Nat) : Int) = j := by omega
          refine ⟨i.toNat, j.toNat, by rw [ei, ej], ?_, by omega, by omega⟩
          unfold prOf
          rw [hs]
        | _ => cases h2
      | _ => cases h1
end Z

set_option Elab.async false
set_option linter.all false
set_option maxRecDepth 100000
namespace Z
open PySem L2
/-! ### the rules by the written part's own name, so that they stand in a comprehension's block too -/
section
variable {X : Cx}
theorem kix_list (K : PySem.W.Frag) (h : X.K = K := by rfl) : IxR X (rIxL K) := by
  rw [← h]
  exact ix_list
theorem kix_tup (K : PySem.W.Frag) (h : X.K = K := by rfl) : IxR X (rIxT K) := by
  rw [← h]
  exact ix_tup
theorem kix_seq (K : PySem.W.Frag) (h : X.K = K := by rfl) : IxR X (rIx K) := by
  rw [← h]
  exact ix_seq
def rLenQ (K : PySem.W.Frag) : List V → Hp → VK → Prop := fun xs H Q => ∃ p ys, xs = [.ref p] ∧ (SqL K H p ys ∨ SqT K H p ys) ∧ Q (.int ys.length) H
theorem klen (K : PySem.W.Frag) (h : X.K = K := by rfl) : CallR X (.builtin "len") (rLenQ K) := by
  rw [← h]
  exact call_len_seq
def rListQ (K : PySem.W.Frag) : List V → Hp → VK → Prop := fun xs H Q => ∃ p ys, xs = [.ref p] ∧ (SqL K H p ys ∨ SqT K H p ys) ∧ ∀ l, H l = none → Q (.ref l) (upd H l (.lst ys))
theorem klist_of (K : PySem.W.Frag) (h : X.K = K := by rfl) : CallR X (.type "list") (rListQ K) := by
  rw [← h]
  exact call_list_of
def rTupQ (K : PySem.W.Frag) : List V → Hp → VK → Prop := fun xs H Q => ∃ p ys, xs = [.ref p] ∧ ((SqL K H p ys ∧ ∀ l, H l = none → Q (.ref l) (upd H l (.tup ys))) ∨ (SqT K H p ys ∧ Q (.ref p) H))
theorem ktuple_of (K : PySem.W.Frag) (h : X.K = K := by rfl) : CallR X (.type "tuple") (rTupQ K) := by
  rw [← h]
  exact call_tuple_of
theorem kin_seq (K : PySem.W.Frag) (h : X.K = K := by rfl) : OpR X (compareOp .In) (rIn K false) := by
  rw [← h]
  exact op_in_seq
theorem knotin_seq (K : PySem.W.Frag) (h : X.K = K := by rfl) : OpR X (compareOp .NotIn) (rIn K true) := by
  rw [← h]
  exact op_notIn_seq
theorem kisi (K : PySem.W.Frag) (h : X.K = K := by rfl) : CallR X (.builtin "isinstance") (rIsi K) := by
  rw [← h]
  exact call_isi
theorem kisiT (K : PySem.W.Frag) (h : X.K = K := by rfl) : CallR X (.builtin "isinstance") (rIsiT K) := by
  rw [← h]
  exact call_isiT
theorem kany (K : PySem.W.Frag) (hc : X.calm = true) (h : X.K = K := by rfl) : CallR X (.builtin "any") (rAny K) := by
  rw [← h]
  exact cr_any hc
theorem kcatT (K : PySem.W.Frag) (h : X.K = K := by rfl) : OpR X (binaryOp .Add) (rCatA K) := by
  rw [← h]
  exact op_catA
theorem ksl_list (K : PySem.W.Frag) (h : X.K = K := by rfl) : L2.SlR X (rSlL K) := by
  rw [← h]
  exact sl_list
theorem ksl_tup (K : PySem.W.Frag) (h : X.K = K := by rfl) : L2.SlR X (rSlA K) := by
  rw [← h]
  exact sl_tupA
theorem keqD (K : PySem.W.Frag) (hu : X.A.units + 64 < cLine) (h : X.K = K := by rfl) : OpR X (compareOp .Eq) (rEqD K) := by
  rw [← h]
  exact op_eqD hu
theorem kneD (K : PySem.W.Frag) (hu : X.A.units + 64 < cLine) (h : X.K = K := by rfl) : OpR X (compareOp .NotEq) (rNeD K) := by
  rw [← h]
  exact op_neD hu
def tTruQ (K : PySem.W.Frag) (ta : TE) : TT := fun σ H Q => ta σ H fun x H' => ∃ k, TruV K x H' k ∧ Q k H'
theorem kt_truth (K : PySem.W.Frag) {a : Expr} {ta : TE} (ha : PE X a ta) (he : ∀ whole, isTrue a X.env whole = (do let v ← whole; standAt a.pos; holding [v] (truthy v))) (h : X.K = K := by rfl) : PT X a (tTruQ K ta) := by
  rw [← h]
  exact pt_truth ha he
theorem kpi_list (K : PySem.W.Frag) {tg l : Expr} {tl : TE} (hl : PE X l tl) (h : X.K = K := by rfl) : PI X tg l (iList K tl) := by
  rw [← h]
  exact pi_list hl
theorem kpi_tup (K : PySem.W.Frag) {tg l : Expr} {tl : TE} (hl : PE X l tl) (h : X.K = K := by rfl) : PI X tg l (iTup K tl) := by
  rw [← h]
  exact pi_tup hl
theorem kpi_seqA (K : PySem.W.Frag) {tg l : Expr} {tl : TE} (hl : PE X l tl) (h : X.K = K := by rfl) : PI X tg l (ItA K tl) := by
  rw [← h]
  exact pi_seqA hl
theorem kfld (K : PySem.W.Frag) {e : Expr} {ta : TE} {f : Str} {pos : Pos} (he : PE X e ta) (hb : attributeBase e f X.env (eval e X.env) = eval e X.env) (h : X.K = K := by rfl) : PE X (.Attribute e f pos) (tFld K ta f) := by
  rw [← h]
  exact pe_fld he hb
end
end Z

set_option Elab.async false
set_option linter.all false
set_option maxRecDepth 100000
namespace Z
open PySem L2
/-- the numbers below n that p keeps -/
def fl (n : Nat) (p : Nat → Bool) : List Nat := (List.range n).filter p
def natsV (l : List Nat) : List V := l.map fun (y : Nat) => V.int (y : Int)
theorem natsV_len {l : List Nat} : (natsV l).length = l.length := by simp [natsV]
theorem natsV_get {l : List Nat} {i y : Nat} (h : l[i]? = some y) : (natsV l)[i]? = some (.int (y : Int)) := by simp [natsV, h]
theorem natsV_range {n i : Nat} {x : V} (h : (natsV (List.range n))[i]? = some x) : i < n ∧ x = .int (i : Int) := by
  unfold natsV at h
  rw [List.getElem?_map] at h
  by_cases hi : i < n
  · rw [List.getElem?_range hi] at h
    exact ⟨hi, (Option.some.inj h).symm⟩
  · rw [List.getElem?_eq_none (by simpa using hi)] at h
    cases h
theorem ints_range' {n i : Nat} {x : V} (h : (natsV (List.range n))[i]? = some x) : i < n ∧ x = .int (i : Int) := natsV_range h
theorem fl_le {n : Nat} {p : Nat → Bool} : (fl n p).length ≤ n := by
  have h := List.length_filter_le p (List.range n)
  rw [List.length_range] at h
  exact h
theorem fl_succ {n : Nat} {p : Nat → Bool} : fl (n + 1) p = if p n then fl n p ++ [n] else fl n p := by
  unfold fl
  rw [List.range_succ, List.filter_append]
  by_cases h : p n = true
  · rw [if_pos h, List.filter_cons_of_pos h, List.filter_nil]
  · rw [if_neg h, List.filter_cons_of_neg h, List.filter_nil, List.append_nil]
theorem natsV_snoc {l : List Nat} {y : Nat} : natsV l ++ [.int (y : Int)] = natsV (l ++ [y]) := by simp [natsV]
theorem if_true_of' {A B : Prop} (h : A) : if true = true then A else B := by
  rw [if_pos rfl]
  exact h
section
variable {K : PySem.W.Frag} {st D : Addr} {n i : Nat} {vs : List Nat} {σ : L2.St} {H1 : Hp} {Qd : Hp → Prop}
/-- [y for y in states if t(y)]: the test may make objects -/
theorem lc_filt {tt : TT} {p : Nat → Bool} (hn : n ≤ 600) (hst : SqL K H1 st (natsV (List.range n))) (hD : H1 D = none)
    (hw : ∀ y, wipe ((wipe σ vs).set i (some y)) vs = wipe σ vs) (hi : ((wipe σ vs).set i (some V.non))[i]? = some (some V.non))
    (ht : ∀ y H' Qb, y < n → Same H1 H' → (∀ H2, Same H' H2 → Qb (p y) H2) → tt ((wipe σ vs).set i (some (.int (y : Nat)))) H' Qb)
    (hd : ∀ H', Same H1 H' → H' D = some (.lst (natsV (fl n p))) → Qd H') :
    ∃ W : Nat → Nat → Hp → Prop, (∃ m, W 0 m (upd H1 D (.lst []))) ∧ ∀ j m H, W j m H →
      ((Itl K st).stop j H ∧ Qd H) ∨ ((Itl K st).go j H ∧ ∃ Nx : Hp → Prop, (∀ H', Nx H' → ∃ m', m' < m ∧ W (j + 1) m' H') ∧ ∀ x H', (Itl K st).yld j H x H' → gName i x (wipe σ vs) H' fun σ2 H2 => wipe σ2 vs = wipe σ vs ∧ tt σ2 H2 fun b H3 =>
        if b = true then tVar i σ2 H3 fun y H4 => ∃ acc, H4 D = some (.lst acc) ∧ acc.length < sizeLine ∧ Nx (upd H4 D (.lst (acc ++ [y]))) else Nx H3) := by
  have hil : i < (wipe σ vs).length := by
    by_cases h : i < (wipe σ vs).length
    · exact h
    · rw [List.getElem?_eq_none (by rw [List.length_set]; omega)] at hi
      cases hi
  refine lc_list (K := K) (a := st) (xs := natsV (List.range n)) (fun j H' => Same H1 H' ∧ H' D = some (.lst (natsV (fl j p)))) ⟨same_new hD, upd_same⟩ (fun j H' _ q => q.1.seq hst) ?_ ?_
  · rintro j x H' hx ⟨s1, e1⟩
    obtain ⟨hj, rfl⟩ := natsV_range hx
    refine ⟨hw _, ht j H' _ hj s1 fun H2 s2 => ?_⟩
    have e2 := s2 _ _ e1
    by_cases c : p j = true
    · rw [if_pos c]
      refine ⟨_, List.getElem?_set_self hil, _, e2, small1000 (by rw [natsV_len]; have := fl_le (n := j) (p := p); omega), same_mut (s1.trans s2) hD, ?_⟩
      rw [upd_same, natsV_snoc, fl_succ, if_pos c]
    · rw [if_neg c]
      refine ⟨s1.trans s2, ?_⟩
      rw [e2, fl_succ, if_neg c]
  · rintro H' ⟨s1, e1⟩
    have ln : (natsV (List.range n)).length = n := by rw [natsV_len, List.length_range]
    rw [ln] at e1
    exact hd H' s1 e1
/-- tuples of numbers at the places rs -/
def TupsAt (H : Hp) (rs : List Addr) (f : Nat → List Nat) : Prop := ∀ x r, rs[x]? = some r → H r = some (.tup (natsV (f x)))
theorem TupsAt.same {H H' : Hp} {rs : List Addr} {f : Nat → List Nat} (t : TupsAt H rs f) (s : Same H H') : TupsAt H' rs f := fun x r e => s _ _ (t x r e)
/-- [tuple(..) for x in states] -/
theorem lc_tups {te : TE} {f : Nat → List Nat} (hn : n ≤ 600) (hst : SqL K H1 st (natsV (List.range n))) (hD : H1 D = none)
    (hw : ∀ y, wipe ((wipe σ vs).set i (some y)) vs = wipe σ vs)
    (he : ∀ x H' Q, x < n → Same H1 H' → (∀ r H2, Same H' H2 → H' r = none → H2 r = some (.tup (natsV (f x))) → Q (.ref r) H2) → te ((wipe σ vs).set i (some (.int (x : Nat)))) H' Q)
    (hd : ∀ rs H', Same H1 H' → rs.length = n → H' D = some (.lst (rs.map V.ref)) → TupsAt H' rs f → Qd H') :
    ∃ W : Nat → Nat → Hp → Prop, (∃ m, W 0 m (upd H1 D (.lst []))) ∧ ∀ j m H, W j m H →
      ((Itl K st).stop j H ∧ Qd H) ∨ ((Itl K st).go j H ∧ ∃ Nx : Hp → Prop, (∀ H', Nx H' → ∃ m', m' < m ∧ W (j + 1) m' H') ∧ ∀ x H', (Itl K st).yld j H x H' → gName i x (wipe σ vs) H' fun σ2 H2 => wipe σ2 vs = wipe σ vs ∧ tYes σ2 H2 fun b H3 =>
        if b = true then te σ2 H3 fun y H4 => ∃ acc, H4 D = some (.lst acc) ∧ acc.length < sizeLine ∧ Nx (upd H4 D (.lst (acc ++ [y]))) else Nx H3) := by
  refine lc_list (K := K) (a := st) (xs := natsV (List.range n)) (fun j H' => ∃ rs : List Addr, Same H1 H' ∧ rs.length = j ∧ H' D = some (.lst (rs.map V.ref)) ∧ TupsAt H' rs f) ⟨[], same_new hD, rfl, upd_same, fun x r e => by simp at e⟩ (fun j H' _ q => by
    obtain ⟨rs, s1, _⟩ := q
    exact s1.seq hst) ?_ ?_
  · rintro j x H' hx ⟨rs, s1, el, e1, t1⟩
    obtain ⟨hj, rfl⟩ := natsV_range hx
    refine ⟨hw _, ?_⟩
    refine he j H' _ hj s1 fun r H2 s2 hr e2 => ⟨rs.map V.ref, s2 _ _ e1, small1000 (by rw [List.length_map]; omega), rs ++ [r], same_mut (s1.trans s2) hD, by simp [el], ?_, ?_⟩
    · rw [upd_same, List.map_append]
      rfl
    · intro x r' e
      have nD : r' ≠ D := by
        rintro rfl
        by_cases hx : x < rs.length
        · rw [List.getElem?_append_left hx] at e
          have q := t1 x _ e
          rw [e1] at q
          cases q
        · rw [List.getElem?_append_right (by omega)] at e
          cases hz : x - rs.length with
          | zero =>
            rw [hz] at e
            cases e
            rw [s2 _ _ e1] at e2
            cases e2
          | succ z =>
            rw [hz] at e
            simp at e
      rw [upd_ne nD]
      by_cases hx : x < rs.length
      · rw [List.getElem?_append_left hx] at e
        exact s2 _ _ (t1 x _ e)
      · rw [List.getElem?_append_right (by omega)] at e
        cases hz : x - rs.length with
        | zero =>
          rw [hz] at e
          cases e
          have ex : x = j := by omega
          rw [ex]
          exact e2
        | succ z =>
          rw [hz] at e
          simp at e
  · rintro H' ⟨rs, s1, el, e1, t1⟩
    have ln : (natsV (List.range n)).length = n := by rw [natsV_len, List.length_range]
    rw [ln] at el
    exact hd rs H' s1 el e1 t1
end
section
variable {K : PySem.W.Frag} {st : Addr} {n i j : Nat} {vi vj : List Nat} {σ : L2.St} {H1 : Hp} {Q : VK}
/-- tuple([tuple([y for y in states if t(x, y)]) for x in states]) -/
theorem te_tups {tt : TT} {p : Nat → Nat → Bool} (hn : n ≤ 600) (hst : SqL K H1 st (natsV (List.range n))) (e4 : σ[4]? = some (some (.ref st)))
    (w1 : ∀ y, wipe ((wipe σ vi).set i (some y)) vi = wipe σ vi)
    (w2 : ∀ x y, wipe ((wipe ((wipe σ vi).set i (some x)) vj).set j (some y)) vj = wipe ((wipe σ vi).set i (some x)) vj)
    (w3 : ∀ x, ((wipe σ vi).set i (some x))[4]? = some (some (.ref st)))
    (w4 : ∀ x, ((wipe ((wipe σ vi).set i (some x)) vj).set j (some V.non))[j]? = some (some V.non))
    (ht : ∀ x y H' Qb, x < n → y < n → Same H1 H' → (∀ H2, Same H' H2 → Qb (p x y) H2) → tt ((wipe ((wipe σ vi).set i (some (.int (x : Nat)))) vj).set j (some (.int (y : Nat)))) H' Qb)
    (k : ∀ P rs H', Same H1 H' → H1 P = none → rs.length = n → H' P = some (.tup (rs.map V.ref)) → TupsAt H' rs (fun x => fl n (p x)) → Q (.ref P) H') :
    tCB (rTupQ K) (tCons (tLc (iList K (tVar 4)) (gName i) tYes (tCB (rTupQ K) (tCons (tLc (iList K (tVar 4)) (gName j) tt (tVar j) vj) tNil)) vi) tNil) σ H1 Q := by
  refine ⟨_, e4, st, rfl, ⟨_, hst⟩, fun D hD => lc_tups (n := n) (f := fun x => fl n (p x)) hn hst hD w1 (fun x H' Q' hx s1 k' => ?_) fun rs H' s1 el e1 t1 => ?_⟩
  · refine ⟨_, w3 _, st, rfl, ⟨_, s1.seq hst⟩, fun D2 hD2 => lc_filt (n := n) (p := p x) hn (s1.seq hst) hD2 (w2 _) (w4 _) (fun y H2 Qb hy s2 q => ht x y H2 Qb hx hy (s1.trans s2) q) fun H2 s2 e2 => ?_⟩
    exact ⟨D2, _, rfl, .inl ⟨SqL.of e2, fun l hl => k' l _ (s2.trans (same_new hl)) (s2.free hl) upd_same⟩⟩
  · refine ⟨D, _, rfl, .inl ⟨SqL.of e1, fun l hl => k l rs _ (s1.trans (same_new hl)) (s1.free hl) el upd_same (t1.same (same_new hl))⟩⟩
/-- tuple([y for y in states if t(y)]) -/
theorem te_filt {tt : TT} {p : Nat → Bool} (hn : n ≤ 600) (hst : SqL K H1 st (natsV (List.range n))) (e4 : σ[4]? = some (some (.ref st)))
    (w2 : ∀ y, wipe ((wipe σ vj).set j (some y)) vj = wipe σ vj) (w4 : ((wipe σ vj).set j (some V.non))[j]? = some (some V.non))
    (ht : ∀ y H' Qb, y < n → Same H1 H' → (∀ H2, Same H' H2 → Qb (p y) H2) → tt ((wipe σ vj).set j (some (.int (y : Nat)))) H' Qb)
    (k : ∀ P H', Same H1 H' → H1 P = none → H' P = some (.tup (natsV (fl n p))) → Q (.ref P) H') :
    tCB (rTupQ K) (tCons (tLc (iList K (tVar 4)) (gName j) tt (tVar j) vj) tNil) σ H1 Q := by
  refine ⟨_, e4, st, rfl, ⟨_, hst⟩, fun D2 hD2 => lc_filt (n := n) (p := p) hn hst hD2 w2 w4 ht fun H2 s2 e2 => ?_⟩
  exact ⟨D2, _, rfl, .inl ⟨SqL.of e2, fun l hl => k l _ (s2.trans (same_new hl)) (s2.free hl) upd_same⟩⟩
end
/-! ### the attributes of an order -/
theorem putF_len (f : Str) (v : V) : ∀ fs : List (Str × V), (putF f v fs).length ≤ fs.length + 1
  | [] => Nat.le_refl _
  | (g, x) :: r => by
    show (if g = f then (g, v) :: r else (g, x) :: putF f v r).length ≤ _
    by_cases h : g = f
    · rw [if_pos h]
      simp
    · rw [if_neg h]
      have := putF_len f v r
      simp only [List.length_cons]
      omega
def oF (n : Nat) (pa pb pc pe pd : Addr) : List (Str × V) := putF "edges" (.ref pd) (putF "_ends" (.ref pe) (putF "_covers" (.ref pc) (putF "_below" (.ref pb) (putF "_above" (.ref pa) (putF "n" (.int (n : Int)) [])))))
theorem lkN {f g : Str} {v : V} {fs : List (Str × V)} {o : Option V} (h : ¬ g = f) (e : fs.lookup g = o) : (putF f v fs).lookup g = o := by
  rw [lookup_putF, if_neg h]
  exact e
theorem lkY {f : Str} {v : V} {fs : List (Str × V)} : (putF f v fs).lookup f = some v := by
  rw [lookup_putF, if_pos rfl]
def edgesL (n : Nat) (c : Nat → Nat → Bool) : List (Nat × Nat) := (List.range n).flatMap fun s => (fl n (c s)).map fun t => (s, t)
/-- pairs of numbers at the places rs -/
def PairsAt (H : Hp) (rs : List Addr) (l : List (Nat × Nat)) : Prop := rs.length = l.length ∧ ∀ (i : Nat) (r : Addr) (q : Nat × Nat), rs[i]? = some r → l[i]? = some q → H r = some (.tup [.int (q.1 : Int), .int (q.2 : Int)])
theorem PairsAt.same {H H' : Hp} {rs : List Addr} {l : List (Nat × Nat)} (t : PairsAt H rs l) (s : Same H H') : PairsAt H' rs l := ⟨t.1, fun i r q a b => s _ _ (t.2 i r q a b)⟩
theorem PairsAt.nil {H : Hp} : PairsAt H [] [] := ⟨rfl, fun i r q e => by simp at e⟩
theorem PairsAt.snoc {H : Hp} {rs : List Addr} {l : List (Nat × Nat)} {r : Addr} {a b : Nat} (t : PairsAt H rs l) (h : H r = some (.tup [.int (a : Int), .int (b : Int)])) : PairsAt H (rs ++ [r]) (l ++ [(a, b)]) := by
  refine ⟨by simp [t.1], fun i r' q e1 e2 => ?_⟩
  by_cases hi : i < rs.length
  · rw [List.getElem?_append_left hi] at e1
    rw [List.getElem?_append_left (by rw [← t.1]; exact hi)] at e2
    exact t.2 i r' q e1 e2
  · rw [List.getElem?_append_right (by omega)] at e1
    rw [List.getElem?_append_right (by rw [← t.1]; omega)] at e2
    rw [t.1] at e1
    cases hz : i - l.length with
    | zero =>
      rw [hz] at e1 e2
      cases e1
      cases e2
      exact h
    | succ z =>
      rw [hz] at e1
      simp at e1
structure OrdF (H : Hp) (o C dx : Addr) (n : Nat) (M c : Nat → Nat → Bool) : Prop where
  ex : ∃ (pa pb pc pe pd : Addr) (ra rb rc rd : List Addr), H o = some (.ins C dx (oF n pa pb pc pe pd)) ∧
    (H pa = some (.tup (ra.map V.ref)) ∧ ra.length = n ∧ TupsAt H ra fun x => fl n (M x)) ∧
    (H pb = some (.tup (rb.map V.ref)) ∧ rb.length = n ∧ TupsAt H rb fun y => fl n fun x => M x y) ∧
    (H pc = some (.tup (rc.map V.ref)) ∧ rc.length = n ∧ TupsAt H rc fun x => fl n (c x)) ∧
    H pe = some (.tup (natsV (fl n fun s => (fl n (c s)).isEmpty))) ∧
    (H pd = some (.tup (rd.map V.ref)) ∧ PairsAt H rd (edgesL n c))
theorem rg_nats (m : Nat) : rgV 0 (m : Int) = natsV (List.range m) := by
  unfold rgV natsV
  have e : ((m : Int) - 0).toNat = m := by omega
  rw [e]
  refine List.map_congr_left fun i _ => ?_
  rw [Int.zero_add]
section
variable {H H' : Hp} {o C dx : Addr} {fs : List (Str × V)}
theorem keep_tup {r : Addr} {xs : List V} (kp : Keep o H H') (ho : H o = some (.ins C dx fs)) (h : H r = some (.tup xs)) : H' r = some (.tup xs) := kp r _ h (ne_of h ho (by intro z; cases z))
theorem keep_lst {r : Addr} {xs : List V} (kp : Keep o H H') (ho : H o = some (.ins C dx fs)) (h : H r = some (.lst xs)) : H' r = some (.lst xs) := kp r _ h (ne_of h ho (by intro z; cases z))
theorem MatAt.keep {p : Addr} {n : Nat} {M : Nat → Nat → Bool} {rs : List Addr} (m : MatAt H p n M rs) (kp : Keep o H H') (ho : H o = some (.ins C dx fs)) : MatAt H' p n M rs :=
  ⟨keep_lst kp ho m.top, m.len, fun x r e => keep_lst kp ho (m.row x r e), m.nd, m.np⟩
theorem TupsAt.keep {rs : List Addr} {f : Nat → List Nat} (t : TupsAt H rs f) (kp : Keep o H H') (ho : H o = some (.ins C dx fs)) : TupsAt H' rs f := fun x r e => keep_tup kp ho (t x r e)
theorem PairsAt.keep {rs : List Addr} {l : List (Nat × Nat)} (t : PairsAt H rs l) (kp : Keep o H H') (ho : H o = some (.ins C dx fs)) : PairsAt H' rs l := ⟨t.1, fun i r q a b => keep_tup kp ho (t.2 i r q a b)⟩
end
theorem edges_succ {j : Nat} {c : Nat → List Nat} : ((List.range (j + 1)).flatMap fun s => (c s).map fun t => (s, t)) = ((List.range j).flatMap fun s => (c s).map fun t => (s, t)) ++ (c j).map fun t => (j, t) := by
  rw [List.range_succ, List.flatMap_append]
  simp
theorem edges_len {n : Nat} {c : Nat → List Nat} (h : ∀ x, (c x).length ≤ n) : ∀ j, ((List.range j).flatMap fun s => (c s).map fun t => (s, t)).length ≤ j * n
  | 0 => by simp
  | j + 1 => by
    rw [edges_succ, List.length_append, List.length_map, Nat.succ_mul]
    have := edges_len h j
    have := h j
    omega
/-- [(x, y) for x in states for y in c[x]] -/
theorem lc_edges {K : PySem.W.Frag} {st D : Addr} {n i1 i2 : Nat} {vs vs1 : List Nat} {σ : L2.St} {H1 : Hp} {Qd : Hp → Prop} {wi1 : TI} {te : TE} {c : Nat → List Nat} (hn : n ≤ 24) (hc : ∀ x, (c x).length ≤ n)
    (hst : SqL K H1 st (natsV (List.range n))) (hD : H1 D = none)
    (w1 : ∀ y, wipe ((wipe σ vs).set i1 (some y)) vs = wipe σ vs)
    (w2 : ∀ x y, wipe ((wipe ((wipe σ vs).set i1 (some x)) vs1).set i2 (some y)) vs1 = wipe ((wipe σ vs).set i1 (some x)) vs1)
    (hi : ∀ x H' R, x < n → Same H1 H' → (∀ T, SqT K H1 T (natsV (c x)) → R (Itt K T) H') → wi1 ((wipe σ vs).set i1 (some (.int (x : Nat)))) H' R)
    (he : ∀ (x y : Nat) H' Q, x < n → Same H1 H' → (∀ r, H' r = none → Q (.ref r) (upd H' r (.tup [.int (x : Int), .int (y : Int)]))) → te ((wipe ((wipe σ vs).set i1 (some (.int (x : Nat)))) vs1).set i2 (some (.int (y : Nat)))) H' Q)
    (hd : ∀ rs H', Same H1 H' → H' D = some (.lst (rs.map V.ref)) → PairsAt H' rs ((List.range n).flatMap fun s => (c s).map fun t => (s, t)) → Qd H') :
    ∃ W : Nat → Nat → Hp → Prop, (∃ m, W 0 m (upd H1 D (.lst []))) ∧ ∀ i m H, W i m H →
      ((Itl K st).stop i H ∧ Qd H) ∨ ((Itl K st).go i H ∧ ∃ Nx : Hp → Prop, (∀ H', Nx H' → ∃ m', m' < m ∧ W (i + 1) m' H') ∧ ∀ x H', (Itl K st).yld i H x H' → gName i1 x (wipe σ vs) H' fun σ2 H2 => wipe σ2 vs = wipe σ vs ∧ tYes σ2 H2 fun b H3 =>
        if b = true then wi1 σ2 H3 fun J1 H4 => ∃ W1 : Nat → Nat → Hp → Prop, (∃ m, W1 0 m H4) ∧ ∀ j k H, W1 j k H →
          (J1.stop j H ∧ Nx H) ∨ (J1.go j H ∧ ∃ Nx1 : Hp → Prop, (∀ H', Nx1 H' → ∃ k', k' < k ∧ W1 (j + 1) k' H') ∧ ∀ x H', J1.yld j H x H' → gName i2 x (wipe σ2 vs1) H' fun σ3 H5 => wipe σ3 vs1 = wipe σ2 vs1 ∧ tYes σ3 H5 fun b H6 =>
            if b = true then te σ3 H6 fun y H7 => ∃ acc, H7 D = some (.lst acc) ∧ acc.length < sizeLine ∧ Nx1 (upd H7 D (.lst (acc ++ [y]))) else Nx1 H6)
        else Nx H3) := by
  refine ⟨fun i m H => m = n - i ∧ i ≤ n ∧ ∃ rs, Same H1 H ∧ H D = some (.lst (rs.map V.ref)) ∧ PairsAt H rs ((List.range i).flatMap fun s => (c s).map fun t => (s, t)),
    ⟨n, by simp, Nat.zero_le _, [], same_new hD, upd_same, PairsAt.nil⟩, ?_⟩
  rintro i m H ⟨rfl, hin, rs, s1, e1, p1⟩
  have hq := s1.seq hst
  by_cases hlt : i < n
  · refine .inr ⟨⟨_, .int (i : Int), hq, natsV_get (List.getElem?_range hlt)⟩, fun H' => ∃ rs, Same H1 H' ∧ H' D = some (.lst (rs.map V.ref)) ∧ PairsAt H' rs ((List.range (i + 1)).flatMap fun s => (c s).map fun t => (s, t)),
      fun H' q => ⟨n - (i + 1), by omega, rfl, hlt, q⟩, fun x H' y => ?_⟩
    obtain ⟨rfl, y⟩ := y
    obtain rfl : x = .int (i : Int) := (ints_range' (y _ hq)).2
    refine ⟨w1 _, ?_⟩
    refine hi i H' _ hlt s1 fun T hT => ?_
    refine ⟨fun j k H2 => k = (c i).length - j ∧ j ≤ (c i).length ∧ ∃ rs, Same H1 H2 ∧ H2 D = some (.lst (rs.map V.ref)) ∧ PairsAt H2 rs (((List.range i).flatMap fun s => (c s).map fun t => (s, t)) ++ ((c i).take j).map fun t => (i, t)),
      ⟨(c i).length, by simp, Nat.zero_le _, rs, s1, e1, by simpa using p1⟩, ?_⟩
    rintro j k H2 ⟨rfl, hj, rs2, s2, e2, p2⟩
    have hq2 := Same.sqT s2 hT
    by_cases hl : j < (c i).length
    · have hget : (c i)[j]? = some (c i)[j] := by simp [hl]
      refine .inr ⟨⟨_, .int (((c i)[j] : Nat) : Int), hq2, natsV_get hget⟩, fun H3 => ∃ rs, Same H1 H3 ∧ H3 D = some (.lst (rs.map V.ref)) ∧ PairsAt H3 rs (((List.range i).flatMap fun s => (c s).map fun t => (s, t)) ++ ((c i).take (j + 1)).map fun t => (i, t)),
        fun H3 q => ⟨(c i).length - (j + 1), by omega, rfl, hl, q⟩, fun x H3 y => ?_⟩
      obtain ⟨rfl, y⟩ := y
      obtain rfl : x = .int (((c i)[j] : Nat) : Int) := by
        have z := y _ hq2
        rw [natsV_get hget] at z
        exact (Option.some.inj z).symm
      refine ⟨w2 _ _, ?_⟩
      refine he i _ H3 _ hlt s2 fun r hr => ?_
      have nr : r ≠ D := ne_of_none' e2 hr
      have len2 : rs2.length ≤ i * n + n := by
        rw [p2.1, List.length_append, List.length_map, List.length_take]
        have := edges_len hc i
        have := hc i
        omega
      have b2 : i * n ≤ 24 * 24 := Nat.mul_le_mul (by omega) hn
      refine ⟨rs2.map V.ref, by rw [upd_ne nr.symm]; exact e2, small1000 (by rw [List.length_map]; omega), rs2 ++ [r], same_mut (s2.trans (same_new hr)) hD, ?_, ?_⟩
      · rw [upd_same, List.map_append]
        rfl
      · have q := (p2.same (same_new (o := .tup [.int (i : Int), .int (((c i)[j] : Nat) : Int)]) hr)).snoc (r := r) (a := i) (b := (c i)[j]) upd_same
        have e3 : (c i).take (j + 1) = (c i).take j ++ [(c i)[j]] := by
          rw [List.take_add_one, hget]
          rfl
        rw [e3, List.map_append, ← List.append_assoc]
        refine ⟨q.1, fun a r' v a1 a2 => ?_⟩
        have t1 := q.2 a r' v a1 a2
        have nr' : r' ≠ D := by
          rintro rfl
          rw [upd_ne nr.symm, e2] at t1
          cases t1
        rw [upd_ne nr']
        exact t1
    · have ej : j = (c i).length := by omega
      refine .inl ⟨⟨_, hq2, by rw [natsV_len]; omega⟩, rs2, s2, e2, ?_⟩
      rw [edges_succ]
      rw [ej, List.take_length] at p2
      exact p2
  · have e : i = n := by omega
    subst e
    exact .inl ⟨⟨_, hq, by rw [natsV_len, List.length_range]; exact Nat.le_refl _⟩, hd rs H s1 e1 p1⟩
end Z

set_option Elab.async false
set_option linter.all false
set_option maxRecDepth 100000
namespace Z
open PySem L2
local macro_rules | `(tactic| walk_at "side") => `(tactic| first | omega | (unfold CMul; omega) | (unfold CDiv; omega) | (unfold CDivN; omega) | (unfold CPow; omega) | decide)
local macro_rules | `(tactic| walk_at "lst") => `(tactic| first | exact SqL.of (by assumption) | exact SqL.of upd_same | assumption | exact upd_same)
local macro_rules | `(tactic| walk_at "r1") => `(tactic| first | refine ⟨_, rfl, ?_⟩ | refine ⟨_, _, rfl, rfl, ?_⟩ | refine Or.inl ⟨_, rfl, ?_⟩ | refine And.intro rfl ?_ | refine ⟨_, _, _, _, rfl, rfl, by walk_at "lst", rfl, ?_⟩ | refine ⟨_, _, rfl, Or.inl (by walk_at "lst"), ?_⟩ | refine And.intro (by walk_at "side") ?_)
local macro_rules | `(tactic| walk_at "r") => `(tactic| repeat walk_at "r1")
def top (i : Nat) : Stmt := PySem.Challenge.pw_spentframes_k00_orders_by_all_pairs.main.body.getD i (.Pass ⟨0, 0, 0, 0⟩)
abbrev s_mix : Stmt := top 17
abbrev s_draw : Stmt := top 18
section
variable {P : Program} {w : World} {K : PySem.W.Frag} {mg : Str → Option Value} {base : Heap}
theorem sc_mix : FnScope ["number", "turn", "once", "twice"] ["number", "turn"] (defScope s_mix) := ⟨rfl, rfl, rfl, by decide +kernel, rfl, by decide +kernel, by decide +kernel⟩
theorem mix_range {x M : Int} (h : 0 < M) : 0 ≤ x % M ∧ x % M < M := ⟨Int.emod_nonneg x (by omega), Int.emod_lt_of_pos x h⟩
theorem ok_mix {f : Addr} {fd : FuncData} (F : Fun K "_law_mix" "_law_mix" s_mix f fd) (T : Bl mg) : FnOk P w K mg base CX0 1 f fd ["number", "turn"] spMix := by
  refine F.ok sc_mix (fun vs H Q E h => ?_) (fun cdv A outer s H vs Q E hr h => ?_)
  · obtain ⟨a, b, rfl, _⟩ := h
    rfl
  · obtain ⟨a, b, rfl, ha, ha', hb, hb', k⟩ := h
    refine ⟨_,
      (pss_cons (ps_set (i := 2) sc_mix.nd rfl (Or.inl rfl) (pe_op op_mod (pe_callTy call_int1 (by rfl) T.n_int (by decide +kernel) (pa_cons (pe_op op_add (pe_op op_add (pe_op op_mul (pv 0) pe_int) (pe_op op_mul (pv 1) pe_int)) pe_int) pa_nil)) pe_int))
      (pss_cons (ps_set (i := 3) sc_mix.nd rfl (Or.inl rfl) (pe_op op_mod (pe_callTy call_int1 (by rfl) T.n_int (by decide +kernel) (pa_cons (pe_op op_add (pe_op op_add (pe_op op_mul (pv 2) (pv 2)) (pe_op op_mul (pv 1) pe_int)) (pe_op op_fdiv (pv 2) pe_int)) pa_nil)) pe_int))
      (pss_one (ps_ret (pe_op op_fdiv (pe_op op_mod (pe_callTy call_int1 (by rfl) T.n_int (by decide +kernel) (pa_cons (pe_op op_add (pe_op op_mul (pv 3) pe_int) (pv 2)) pa_nil)) pe_int) pe_int)))))
      , ?_⟩
    have m1 := mix_range (x := a * 69069 + b * 30011 + 7) (M := 2147483629) (by decide)
    walk_at "r"
    have m2 := mix_range (x := ((a * 69069 + b * 30011 + 7) % 2147483629 * ((a * 69069 + b * 30011 + 7) % 2147483629) + b * 40503 + (a * 69069 + b * 30011 + 7) % 2147483629 / 977) % 2147483587 * 48271 + (a * 69069 + b * 30011 + 7) % 2147483629) (M := 2147483563) (by decide)
    exact k _ (by omega)
theorem sc_draw : FnScope ["hand", "many", "cell", "rest"] ["hand", "many"] (defScope s_draw) := ⟨rfl, rfl, rfl, by decide +kernel, rfl, by decide +kernel, by decide +kernel⟩
theorem hnd_mk {H : Hp} {h a : Addr} {cells : List Int} {i : Nat} {r t : Int} {o : HO} (eo : o = .lst [.ref a, .int (i : Nat), .int r, .int t]) (e2 : H a = some (.lst (cells.map V.int))) (ne : a ≠ h) (hl : cells.length ≤ 63) (hc : ∀ c ∈ cells, 0 ≤ c) (hi : i ≤ cells.length) (hr : 0 ≤ r) (h0 : 0 ≤ t) (h1 : t < 2147483549) : Hnd (upd H h o) h a :=
  ⟨cells, i, r, t, by rw [eo]; exact upd_same, by rw [upd_ne ne]; exact e2, ne, hl, hc, hi, hr, h0, h1⟩
theorem ok_draw {f : Addr} {fd : FuncData} (F : Fun K "_law_draw" "_law_draw" s_draw f fd) (T : Bl mg) (c_law_mix : Cal P w K mg base CX0 "_law_mix" 1 spMix) : FnOk P w K mg base CX0 2 f fd ["hand", "many"] spDraw := by
  refine F.ok sc_draw (fun vs H Q E h => ?_) (fun cdv A outer s H vs Q E hr h => ?_)
  · obtain ⟨h, a, b, rfl, _⟩ := h
    rfl
  · obtain ⟨h, a, m, rfl, hn, h1, h2, k⟩ := h
    obtain ⟨cells, i, r, t, e1, e2, ne, hlen, hpos, hi, hr0, ht0, ht1⟩ := hn.ex
    have thr : ∃ o, H h = some o := ⟨_, e1⟩
    have fm : ∀ x : Int, 0 ≤ x.fmod m ∧ x.fmod m < m := fun x => ⟨Int.fmod_nonneg_of_pos x (by omega), Int.fmod_lt_of_pos x (by omega)⟩
    have fre : ∀ (b : Addr) (o : HO), H b = none → upd H h o b = none := fun b o z => by rw [upd_ne (ne_of_none e1 z).symm]; exact z
    refine ⟨_,
      (pss_cons (ps_if (PW.pt (pw_and (pt_cmpR op_eq (pe_ix (kix_list K) (pv 0) pe_int (fun _ _ => rfl)) pe_int (nomark _)) (pw_and1 (pt_cmpR op_lt (pe_ix (kix_list K) (pv 0) pe_int (fun _ _ => rfl)) (pe_callB (klen K) (by rfl) T.n_len PySem.boot_len (pa_cons (pe_ix (kix_list K) (pv 0) pe_int (fun _ _ => rfl)) pa_nil)) (nomark _)))))
        (pss_cons (ps_set (i := 2) sc_draw.nd rfl (Or.inl rfl) (pe_ix (kix_list K) (pe_ix (kix_list K) (pv 0) pe_int (fun _ _ => rfl)) (pe_ix (kix_list K) (pv 0) pe_int (fun _ _ => rfl)) (fun _ _ => rfl)))
        (pss_cons (ps_asg (pe_op op_add (pe_ix (kix_list K) (pv 0) pe_int (fun _ _ => rfl)) pe_int) (pg_sub (pv 0) pe_int set_list))
        (pss_cons (ps_if (pt_cmpR op_lt (pv 2) (pe_op op_pow pe_int pe_int) (nomark _))
          (pss_one (ps_ret (pe_op op_modN (pe_callTy call_int1 (by rfl) T.n_int (by decide +kernel) (pa_cons (pe_cal c_law_mix (hr.mono (by decide)) (by rfl) (pa_cons (pe_op op_mod (pe_callTy call_int1 (by rfl) T.n_int (by decide +kernel) (pa_cons (pv 2) pa_nil)) pe_int) (pa_cons (pe_ix (kix_list K) (pv 0) pe_int (fun _ _ => rfl)) pa_nil))) pa_nil)) (pv 1))))
          pss_nil)
        (pss_one (ps_asg (pv 2) (pg_sub (pv 0) pe_int set_list))))))
        pss_nil)
      (pss_cons (ps_if (pt_cmpR op_gt (pe_ix (kix_list K) (pv 0) pe_int (fun _ _ => rfl)) pe_int (nomark _))
        (pss_cons (ps_set (i := 3) sc_draw.nd rfl (Or.inl rfl) (pe_ix (kix_list K) (pv 0) pe_int (fun _ _ => rfl)))
        (pss_cons (ps_asg (pe_op op_fdivN (pv 3) (pv 1)) (pg_sub (pv 0) pe_int set_list))
        (pss_one (ps_ret (pe_op op_modN (pe_callTy call_int1 (by rfl) T.n_int (by decide +kernel) (pa_cons (pv 3) pa_nil)) (pv 1))))))
        pss_nil)
      (pss_cons (ps_asg (pe_op op_mod (pe_callTy call_int1 (by rfl) T.n_int (by decide +kernel) (pa_cons (pe_op op_add (pe_ix (kix_list K) (pv 0) pe_int (fun _ _ => rfl)) pe_int) pa_nil)) pe_int) (pg_sub (pv 0) pe_int set_list))
      (pss_one (ps_ret (pe_op op_modN (pe_callTy call_int1 (by rfl) T.n_int (by decide +kernel) (pa_cons (pe_cal c_law_mix (hr.mono (by decide)) (by rfl) (pa_cons (pe_ix (kix_list K) (pv 0) pe_int (fun _ _ => rfl)) (pa_cons (pe_ix (kix_list K) (pv 0) pe_int (fun _ _ => rfl)) pa_nil))) pa_nil)) (pv 1)))))))
      , ?_⟩
    walk_at "r"
    have tl : ∀ (X : Hp) (i' : Nat) (r' t' : Int), Keep h H X → (∀ b, H b = none → X b = none) → X a = some (.lst (cells.map V.int)) → i' ≤ cells.length → 0 ≤ r' → 0 ≤ t' → t' < 2147483549 →
        ∀ d, 0 ≤ d → d < m → Q (.int d) (upd X h (.lst [.ref a, .int (i' : Nat), .int r', .int t'])) := fun X i' r' t' kp fr f2 hi' hr' ht' ht'' d d0 d1 =>
      k d _ d0 d1 (kp.trans Keep.upd) (hnd_mk rfl f2 ne hlen hpos hi' hr' ht' ht'') (fun b z => by rw [upd_ne (ne_of_none e1 z).symm]; exact fr b z)
    refine iteB (fun c1 => ?_) (fun c1 => ?_)
    · have r0 : r = 0 := dec_i_t c1
      walk_at "r"
      refine iteB (fun c2 => ?_) (fun c2 => ?_)
      · have hil : i < cells.length := by
          have := of_decide_eq_true c2
          simp only [List.length_map] at this
          omega
        have hget : (cells.map V.int)[i]? = some (.int (cells[i])) := by simp [hil]
        walk_at "r"
        refine ⟨_, _, _, _, rfl, rfl, SqL.of e2, atI_nat hget, ?_⟩
        walk_at "r"
        have e3 : upd H h (.lst [.ref a, .int ((i : Int) + 1), .int r, .int t]) h = some (.lst [.ref a, .int ((i + 1 : Nat) : Int), .int r, .int t]) := upd_same
        have kp : Keep h H (upd H h (.lst [.ref a, .int ((i + 1 : Nat) : Int), .int r, .int t])) := Keep.upd
        have fr : ∀ b, H b = none → upd H h (.lst [.ref a, .int ((i + 1 : Nat) : Int), .int r, .int t]) b = none := fun b z => fre b _ z
        have f2 : upd H h (.lst [.ref a, .int ((i + 1 : Nat) : Int), .int r, .int t]) a = some (.lst (cells.map V.int)) := by rw [upd_ne ne]; exact e2
        have hc0 : 0 ≤ cells[i] := hpos _ (List.getElem_mem hil)
        refine iteB (fun c3 => ?_) (fun c3 => ?_)
        · walk_at "r"
          have q := mix_range (x := cells[i]) (M := 2147483629) (by decide)
          refine ⟨_, _, rfl, q.1, by omega, by omega, by omega, fun m' hm => ?_⟩
          walk_at "r"
          have u := tl H (i + 1) r t (Keep.refl _ _) (fun _ z => z) e2 (by omega) hr0 ht0 ht1 (m'.fmod m) (fm _).1 (fm _).2
          exact u
        · walk_at "r"
          have big : (1000000000000000000 : Int) ≤ cells[i] := by
            have z := of_decide_eq_false c3
            have z2 : (10 : Int) ^ Int.toNat 18 = 1000000000000000000 := by decide
            rw [z2] at z
            omega
          refine iteB (fun c4 => ?_) (fun c4 => ?_)
          · walk_at "r"
            refine tl _ (i + 1) (cells[i].fdiv m) t ?_ ?_ ?_ (by omega) (Int.fdiv_nonneg (by omega) (by omega)) ht0 ht1 _ (fm _).1 (fm _).2
            · exact Keep.upd.trans Keep.upd
            · intro b z
              rw [upd_ne (ne_of_none e1 z).symm, upd_ne (ne_of_none e1 z).symm]
              exact z
            · rw [upd_ne ne, upd_ne ne]
              exact e2
          · have z := of_decide_eq_false c4
            omega
      · walk_at "r"
        refine iteB (fun c4 => ?_) (fun c4 => ?_)
        · have z := of_decide_eq_true c4
          omega
        · walk_at "r"
          have q := mix_range (x := t + 1) (M := 2147483549) (by decide)
          refine ⟨_, _, rfl, q.1, by omega, by omega, by omega, fun m' hm => ?_⟩
          walk_at "r"
          exact tl H i r ((t + 1) % 2147483549) (Keep.refl _ _) (fun _ z => z) e2 hi hr0 q.1 q.2 _ (fm _).1 (fm _).2
    · have r0 : r ≠ 0 := dec_i_f c1
      walk_at "r"
      refine iteB (fun c4 => ?_) (fun c4 => ?_)
      · walk_at "r"
        exact tl H i (r.fdiv m) t (Keep.refl _ _) (fun _ z => z) e2 hi (Int.fdiv_nonneg hr0 (by omega)) ht0 ht1 _ (fm _).1 (fm _).2
      · have z := of_decide_eq_false c4
        omega
end
end Z

set_option Elab.async false
set_option linter.all false
set_option maxRecDepth 100000
namespace Z
open PySem L2
abbrev s_bo : Stmt := inClass (top 3) 0
/-- what the written part says of BadOrder -/
structure ExC (K : PySem.W.Frag) (mg : Str → Option Value) (C fI : Addr) : Prop where
  ox : OexC K C
  g : mg "BadOrder" = some (.ref C)
  iC : PySem.W.findIn K (.ref C) "__init__" = some (some (.ref fI))
  tI : PySem.W.typeIn K (.ref fI) = some (.type "function")
  n1 : PySem.W.findIn K (.ref C) "what" = some none
  n2 : PySem.W.findIn K (.ref C) "at" = some none
def spEI (C : Addr) : Sp := fun vs H Q _ => ∃ (a : Addr) (x y : V), vs = [.ref a, x, y] ∧ H a = some (exo a C none) ∧
  ∀ d, H d = none → d ≠ a → Q .non (upd (upd (upd H d (exd d [("what", x)])) a (exo a C (some d))) d (exd d [("at", y), ("what", x)]))
section
variable {P : Program} {w : World} {K : PySem.W.Frag} {mg : Str → Option Value} {base : Heap}
theorem sc_bo : FnScope ["self", "what", "at"] ["self", "what", "at"] (defScope s_bo) := ⟨rfl, rfl, rfl, by decide +kernel, rfl, by decide +kernel, by decide +kernel⟩
theorem ok_bo {f C fI : Addr} {fd : FuncData} (F : Fun K "__init__" "BadOrder.__init__" s_bo f fd) (T : ExC K mg C fI) : FnOk P w K mg base CX0 1 f fd ["self", "what", "at"] (spEI C) := by
  refine F.ok sc_bo (fun vs H Q E h => ?_) (fun cdv A outer s H vs Q E hr h => ?_)
  · obtain ⟨a, x, y, rfl, _⟩ := h
    rfl
  · obtain ⟨a, x, y, rfl, ha, k⟩ := h
    refine ⟨_, pss_cons (ps_ost (pv 0) (pv 1)) (pss_one (ps_ost (pv 0) (pv 2))), ?_⟩
    refine ⟨_, rfl, _, rfl, a, C, rfl, T.ox, T.n1, .inl ⟨ha, fun d hd nd => ?_⟩⟩
    refine ⟨_, rfl, _, rfl, a, C, rfl, T.ox, T.n2, .inr ⟨d, [("what", x)], upd_same, ?_, ?_, ?_⟩⟩
    · rw [upd_ne nd]
      exact upd_same
    · show 1 ≤ 900
      decide
    · exact k d hd nd
end
/-- what is asked behind the arguments of BadOrder(x, y): the made error's own dict at d, all else as it was -/
theorem mk2_of {C : Addr} {x y : V} {H1 : Hp} {Q : XK} (k : ∀ (d : Addr) (H' : Hp), H1 d = none → Same H1 H' → H' d = some (.xd [("at", y), ("what", x)]) → Q (.ref C) (some d) H') :
    [x, y].length ≤ 1000 ∧ ∀ a, H1 a = none → spEI C (.ref a :: ([x, y] ++ [])) (upd H1 a (exo a C none))
      (fun v H2 => v = .non ∧ ∃ (d : Addr) (fs : List (Str × V)), H2 a = some (exo a C (some d)) ∧ H2 d = some (exd d fs) ∧ H1 d = none ∧ Q (.ref C) (some d) (upd (del H2 a) d (.xd fs))) (fun _ _ _ => False) := by
  refine ⟨(by show 2 ≤ 1000; decide), fun a ha => ⟨a, x, y, rfl, upd_same, fun d hd nd => ⟨rfl, d, [("at", y), ("what", x)], ?_, upd_same, ?_, ?_⟩⟩⟩
  · rw [upd_ne (Ne.symm nd), upd_same]
  · rw [upd_ne nd] at hd
    exact hd
  · have hd' : H1 d = none := by
      rw [upd_ne nd] at hd
      exact hd
    refine k d _ hd' (fun b o e => ?_) upd_same
    have nb : b ≠ d := ne_of_none e hd'
    have na : b ≠ a := ne_of_none e ha
    rw [upd_ne nb, del_ne na, upd_ne nb, upd_ne na, upd_ne nb, upd_ne na]
    exact e
/-- an error of BadOrder, with its two fields -/
def EBO (C : Addr) (H : Hp) (x y : V) (E : XK) : Prop := ∀ (d : Addr) (H' : Hp), Same H H' → H' d = some (.xd [("at", y), ("what", x)]) → E (.ref C) (some d) H'
/-! ### _check_parts -/
/-- the first fault of the parts -/
def pairFault (high : Int) : List PyData → Nat → Option Nat
  | [], _ => none
  | d :: ds, i => if couple d high then pairFault high ds (i + 1) else some i
def pairF : Option Nat → Option (Str × Int) | some i => some ("pair", (i : Int)) | none => none
def partsFault (n : PyData) (p : PyData) : Option (Str × Int) :=
  if whole n (some 1) (some 24) then
    match n, seqOf p with
    | .int m, some ds => if ds.length ≤ 600 then pairF (pairFault (m - 1) ds 0) else some ("pairs", 0)
    | _, _ => some ("pairs", 0)
  else some ("states", 0)
def spParts (K : PySem.W.Frag) (C : Addr) : Sp := fun vs H Q E => ∃ (x y : V) (n p : PyData), vs = [x, y] ∧ Dp K H x n ∧ AnyD K H y p ∧
  (partsFault n p = none → ∀ H', Same H H' → Q .non H') ∧ (∀ what at_, partsFault n p = some (what, at_) → EBO C H (.str what) (.int at_) E)
end Z

set_option Elab.async false
set_option linter.all false
set_option maxRecDepth 100000
namespace Z
open PySem L2
local macro_rules | `(tactic| walk_at "side") => `(tactic| first | omega | (unfold CMul; omega) | (unfold CDiv; omega) | (unfold CDivN; omega) | (unfold CPow; omega) | decide)
local macro_rules | `(tactic| walk_at "lst") => `(tactic| first | exact SqL.of (by assumption) | exact SqL.of upd_same | assumption | exact upd_same)
local macro_rules | `(tactic| walk_at "r1") => `(tactic| first | refine ⟨_, rfl, ?_⟩ | refine ⟨_, _, rfl, rfl, ?_⟩ | refine Or.inl ⟨_, rfl, ?_⟩ | refine And.intro rfl ?_ | refine ⟨_, _, _, _, rfl, rfl, by walk_at "lst", rfl, ?_⟩ | refine ⟨_, _, rfl, Or.inl (by walk_at "lst"), ?_⟩ | refine And.intro (by walk_at "side") ?_)
local macro_rules | `(tactic| walk_at "r") => `(tactic| repeat walk_at "r1")
abbrev s_whole : Stmt := top 5
abbrev s_seq : Stmt := top 6
abbrev s_couple : Stmt := top 7
section
variable {P : Program} {w : World} {K : PySem.W.Frag} {mg : Str → Option Value} {base : Heap}
theorem sc_whole : FnScope ["thing", "low", "high"] ["thing", "low", "high"] (defScope s_whole) := ⟨rfl, rfl, rfl, by decide +kernel, rfl, by decide +kernel, by decide +kernel⟩
theorem oV_none {o : Option Int} : decide (oV o = .non) = o.isNone := by cases o <;> simp [oV]
theorem ok_whole {f : Addr} {fd : FuncData} (F : FunD K "is_whole" "is_whole" (defArgs s_whole) (defBody s_whole) (defScope s_whole) [.non, .non] [] f fd) (T : Bl mg) : FnOk P w K mg base CX0 1 f fd ["thing", "low", "high"] (spWhole K) := by
  refine F.ok sc_whole (fun vs H Q E h => ?_) (fun cdv A outer s H vs Q E hr h => ?_)
  · obtain ⟨x, d, lo, hi, rfl, _⟩ := h
    rfl
  · obtain ⟨x, d, lo, hi, rfl, hd, k⟩ := h
    refine ⟨_,
      (pss_cons (ps_if (PW.pt (pw_or (pt_val (pe_callB (kisi K) (by rfl) T.n_isinstance (by decide +kernel) (pa_cons (pv 0) (pa_cons (pe_bltn (v := .ty "bool") (u := .type "bool") (by rfl) T.n_bool (by decide +kernel) rfl) pa_nil)))) (pw_or1 (pt_not (pt_val (pe_callB (kisi K) (by rfl) T.n_isinstance (by decide +kernel) (pa_cons (pv 0) (pa_cons (pe_bltn (v := .ty "int") (u := .type "int") (by rfl) T.n_int (by decide +kernel) rfl) pa_nil))))))))
        (pss_one (ps_ret pe_bl))
        pss_nil)
      (pss_cons (ps_if (PW.pt (pw_and (pt_cmpR op_notN (pv 1) pe_non (nomark _)) (pw_and1 (pt_cmpR op_lt (pv 0) (pv 1) (nomark _)))))
        (pss_one (ps_ret pe_bl))
        pss_nil)
      (pss_one (ps_ret (pe_or (pe_cmpR op_isN (pv 2) pe_non (nomark _)) (pe_one (pe_cmpR op_le (pv 0) (pv 2) (nomark _))))))))
      , ?_⟩
    walk_at "r"
    refine ⟨_, _, _, _, _, rfl, .ty _, ty_of_dp hd, kit_ty (kb_bool d), ?_⟩
    refine ⟨_, rfl, ?_⟩
    refine iteB (fun c => ?_) (fun c => ?_)
    · refine iteT ?_
      cases d <;> first | (cases c; done) | exact k
    · walk_at "r"
      refine ⟨_, _, _, _, _, rfl, .ty _, ty_of_dp hd, kit_ty (kb_int d), ?_⟩
      refine ⟨_, rfl, ?_⟩
      refine iteB (fun c2 => ?_) (fun c2 => ?_)
      · cases d <;> first | (cases c; done) | (cases c2; done) | exact k
      · cases d with
        | int i =>
          cases hd
          cases lo with
          | none =>
            walk_at "r"
            cases hi with
            | none =>
              walk_at "r"
              exact k
            | some u =>
              walk_at "r"
              exact k
          | some l =>
            walk_at "r"
            refine iteB (fun c3 => ?_) (fun c3 => ?_)
            · have z : decide (l ≤ i) = false := decide_eq_false (by have := of_decide_eq_true c3; omega)
              have e : whole (.int i) (some l) hi = false := by simp only [whole, z, Bool.false_and]
              rw [e] at k
              exact k
            · have z : decide (l ≤ i) = true := decide_eq_true (by have := of_decide_eq_false c3; omega)
              cases hi with
              | none =>
                walk_at "r"
                have e : whole (.int i) (some l) none = true := by simp only [whole, z, Bool.true_and]
                rw [e] at k
                exact k
              | some u =>
                walk_at "r"
                have e : whole (.int i) (some l) (some u) = decide (i ≤ u) := by simp only [whole, z, Bool.true_and]
                rw [e] at k
                exact k
        | bool _ => cases c
        | _ => cases c2
theorem sc_seq : FnScope ["thing"] ["thing"] (defScope s_seq) := ⟨rfl, rfl, rfl, by decide +kernel, rfl, by decide +kernel, by decide +kernel⟩
theorem ok_seq {f : Addr} {fd : FuncData} (F : Fun K "is_sequence" "is_sequence" s_seq f fd) (T : Bl mg) : FnOk P w K mg base CX0 1 f fd ["thing"] (spSeq K) := by
  refine F.ok sc_seq (fun vs H Q E h => ?_) (fun cdv A outer s H vs Q E hr h => ?_)
  · obtain ⟨x, d, rfl, _⟩ := h
    rfl
  · obtain ⟨x, d, rfl, hd, k⟩ := h
    refine ⟨_,
      (pss_one (ps_ret (pe_callB call_isiT (by rfl) T.n_isinstance (by decide +kernel) (pa_cons (pv 0) (pa_cons (pe_tup (pa_cons (pe_bltn (v := .ty "list") (u := .type "list") (by rfl) T.n_list (by decide +kernel) rfl) (pa_cons (pe_bltn (v := .ty "tuple") (u := .type "tuple") (by rfl) T.n_tuple (by decide +kernel) rfl) pa_nil))) pa_nil)))))
      , ?_⟩
    walk_at "r"
    intro p hp
    refine ⟨_, _, _, _, _, _, rfl, upd_same, .cons (.ty _) (.cons (.ty _) .nil), ty_of_any (hd.same (same_new hp)), ka_seq (kb_list d) (kb_tuple d), ?_⟩
    exact k _ (same_new hp)
theorem sc_couple : FnScope ["thing", "high"] ["thing", "high"] (defScope s_couple) := ⟨rfl, rfl, rfl, by decide +kernel, rfl, by decide +kernel, by decide +kernel⟩
theorem ok_couple {f : Addr} {fd : FuncData} (F : Fun K "is_couple" "is_couple" s_couple f fd) (T : Bl mg) (cis_sequence : Cal P w K mg base CX0 "is_sequence" 1 (spSeq K)) (cis_whole : Cal P w K mg base CX0 "is_whole" 1 (spWhole K)) : FnOk P w K mg base CX0 2 f fd ["thing", "high"] (spCouple K) := by
  refine F.ok sc_couple (fun vs H Q E h => ?_) (fun cdv A outer s H vs Q E hr h => ?_)
  · obtain ⟨x, d, hi, rfl, _⟩ := h
    rfl
  · obtain ⟨x, d, hi, rfl, hd, k⟩ := h
    refine ⟨_,
      (pss_one (ps_ret (pe_and (pe_cal cis_sequence (hr.mono (by decide)) (by rfl) (pa_cons (pv 0) pa_nil)) (pe_and (pe_cmpR op_eq (pe_callB (klen K) (by rfl) T.n_len PySem.boot_len (pa_cons (pv 0) pa_nil)) pe_int (nomark _)) (pe_and (pe_cal cis_whole (hr.mono (by decide)) (by rfl) (pa_cons (pe_ix ix_seq (pv 0) pe_int (fun _ _ => rfl)) (pa_cons pe_int (pa_cons (pv 1) pa_nil)))) (pe_one (pe_cal cis_whole (hr.mono (by decide)) (by rfl) (pa_cons (pe_ix ix_seq (pv 0) pe_int (fun _ _ => rfl)) (pa_cons pe_int (pa_cons (pv 1) pa_nil))))))))))
      , ?_⟩
    walk_at "r"
    refine ⟨_, _, rfl, .dp hd, fun H1 s1 => ⟨_, rfl, ?_⟩⟩
    have hd1 := Dp.same s1 _ _ hd
    refine iteB (fun c => ?_) (fun c => ?_)
    · obtain ⟨p, ys, ds, rfl, hq, ha, hs⟩ := seq_dp hd1 c
      have hlen := DpAll.len ha
      walk_at "r"
      refine ⟨_, _, rfl, hq, ?_⟩
      walk_at "r"
      refine iteB (fun c2 => ?_) (fun c2 => ?_)
      · have l2 : ds.length = 2 := by
          have z := dec_i_t c2
          omega
        obtain ⟨d0, d1, rfl⟩ := two_of l2
        obtain ⟨y0, y1, rfl⟩ := two_of hlen
        cases ha with
        | cons a0 r0 =>
          cases r0 with
          | cons a1 r1 =>
            have e := couple_two (hi := hi) hs
            walk_at "r"
            rcases hq with hq | hq
            · refine .inl ⟨_, _, _, _, rfl, rfl, hq, rfl, ?_⟩
              walk_at "r"
              refine ⟨_, _, some 0, some hi, rfl, a0, _, rfl, ?_⟩
              refine iteB (fun c3 => ?_) (fun c3 => ?_)
              · walk_at "r"
                refine .inl ⟨_, _, _, _, rfl, rfl, hq, rfl, ?_⟩
                walk_at "r"
                refine ⟨_, _, some 0, some hi, rfl, a1, ?_⟩
                have q := k _ s1
                rw [e, c3, Bool.true_and] at q
                exact q
              · have q := k _ s1
                rw [e, c3, Bool.false_and] at q
                exact q
            · refine .inr (.inl ⟨_, _, _, _, rfl, rfl, hq, rfl, ?_⟩)
              walk_at "r"
              refine ⟨_, _, some 0, some hi, rfl, a0, _, rfl, ?_⟩
              refine iteB (fun c3 => ?_) (fun c3 => ?_)
              · walk_at "r"
                refine .inr (.inl ⟨_, _, _, _, rfl, rfl, hq, rfl, ?_⟩)
                walk_at "r"
                refine ⟨_, _, some 0, some hi, rfl, a1, ?_⟩
                have q := k _ s1
                rw [e, c3, Bool.true_and] at q
                exact q
              · have q := k _ s1
                rw [e, c3, Bool.false_and] at q
                exact q
      · have l2 : ds.length ≠ 2 := by
          have z := dec_i_f c2
          omega
        have q := k _ s1
        rw [couple_len hs l2] at q
        exact q
    · have q := k _ s1
      rw [couple_no c] at q
      exact q
end
end Z

set_option Elab.async false
set_option linter.all false
set_option maxRecDepth 100000
namespace Z
open PySem L2
local macro_rules | `(tactic| walk_at "side") => `(tactic| first | omega | (unfold CMul; omega) | (unfold CDiv; omega) | (unfold CDivN; omega) | (unfold CPow; omega) | decide)
local macro_rules | `(tactic| walk_at "lst") => `(tactic| first | exact SqL.of (by assumption) | exact SqL.of upd_same | assumption | exact upd_same)
local macro_rules | `(tactic| walk_at "r1") => `(tactic| first | refine ⟨_, rfl, ?_⟩ | refine ⟨_, _, rfl, rfl, ?_⟩ | refine Or.inl ⟨_, rfl, ?_⟩ | refine And.intro rfl ?_ | refine ⟨_, _, _, _, rfl, rfl, by walk_at "lst", rfl, ?_⟩ | refine ⟨_, _, rfl, Or.inl (by walk_at "lst"), ?_⟩ | refine And.intro (by walk_at "side") ?_)
local macro_rules | `(tactic| walk_at "r") => `(tactic| repeat walk_at "r1")
abbrev s_parts : Stmt := top 11
section
variable {P : Program} {w : World} {K : PySem.W.Frag} {mg : Str → Option Value} {base : Heap}
theorem sc_parts : FnScope ["n", "pairs", "at", "pair"] ["n", "pairs"] (defScope s_parts) := ⟨rfl, rfl, rfl, by decide +kernel, rfl, by decide +kernel, by decide +kernel⟩
/-- the module's two bounds -/
structure Cn (mg : Str → Option Value) : Prop where
  gMOST_STATES : ∃ t, mg "MOST_STATES" = some (.int 24 t)
  gMOST_PAIRS : ∃ t, mg "MOST_PAIRS" = some (.int 600 t)
theorem ok_parts {f C fI : Addr} {fd fdI : FuncData} (F : Fun K "_check_parts" "_check_parts" s_parts f fd) (T : Bl mg) (N : Cn mg) (B : ExC K mg C fI) (FB : Fun K "__init__" "BadOrder.__init__" s_bo fI fdI) (bB : Binds K fdI ["self", "what", "at"] [])
    (cis_sequence : Cal P w K mg base CX0 "is_sequence" 1 (spSeq K)) (cis_whole : Cal P w K mg base CX0 "is_whole" 1 (spWhole K)) (cis_couple : Cal P w K mg base CX0 "is_couple" 2 (spCouple K)) :
    FnOk P w K mg base (L2.CX P w) 3 f fd ["n", "pairs"] (spParts K C) := by
  have GB : FnOk P w K mg base CX0 1 fI fdI ["self", "what", "at"] (spEI C) := ok_bo FB B
  refine F.okX sc_parts (fun vs H Q E h => ?_) (fun cdv A outer s H vs Q E hr h => ?_)
  · obtain ⟨x, y, n, p, rfl, _⟩ := h
    rfl
  · obtain ⟨x, y, n, p, rfl, hn, hp, kok, kbad⟩ := h
    obtain ⟨t24, g24⟩ := N.gMOST_STATES
    obtain ⟨t600, g600⟩ := N.gMOST_PAIRS
    refine ⟨_,
      (pss_cons (ps_if (pt_not (pt_val (pe_cal cis_whole (hr.mono (by decide)) (by rfl) (pa_cons (pv 0) (pa_cons pe_int (pa_cons (pe_glob (v := .int 24) (by rfl) g24 ⟨_, rfl⟩) pa_nil))))))
        (pss_one (ps_raise rfl (takes_of rfl rfl rfl rfl) (pmk_oex B.ox B.iC B.tI GB (hr.mono (by decide)) bB .nil pass0 (by rfl) B.g (pa_cons pe_str (pa_cons pe_int pa_nil)))))
        pss_nil)
      (pss_cons (ps_if (PW.pt (pw_or (pt_not (pt_val (pe_cal cis_sequence (hr.mono (by decide)) (by rfl) (pa_cons (pv 1) pa_nil)))) (pw_or1 (pt_cmpR op_gt (pe_callB (klen K) (by rfl) T.n_len PySem.boot_len (pa_cons (pv 1) pa_nil)) (pe_glob (v := .int 600) (by rfl) g600 ⟨_, rfl⟩) (nomark _)))))
        (pss_one (ps_raise rfl (takes_of rfl rfl rfl rfl) (pmk_oex B.ox B.iC B.tI GB (hr.mono (by decide)) bB .nil pass0 (by rfl) B.g (pa_cons pe_str (pa_cons pe_int pa_nil)))))
        pss_nil)
      (pss_one (ps_for (passes_of rfl) rfl (pi_enumA (by rfl) T.n_enumerate (pa_cons (pv 1) pa_nil)) (pg_tup (by rfl) (pgs_cons (pg_name (i := 2) sc_parts.nd rfl (Or.inl rfl)) (pgs_cons (pg_name (i := 3) sc_parts.nd rfl (Or.inl rfl)) pgs_nil)))
        (pss_one (ps_if (pt_not (pt_val (pe_cal cis_couple (hr.mono (by decide)) (by rfl) (pa_cons (pv 3) (pa_cons (pe_op op_sub (pv 0) pe_int) pa_nil)))))
          (pss_one (ps_raise rfl (takes_of rfl rfl rfl rfl) (pmk_oex B.ox B.iC B.tI GB (hr.mono (by decide)) bB .nil pass0 (by rfl) B.g (pa_cons pe_str (pa_cons (pv 2) pa_nil)))))
          pss_nil))))))
      , ?_⟩
    walk_at "r"
    refine ⟨_, _, some 1, some 24, rfl, hn, _, rfl, ?_⟩
    refine iteB (fun c1 => ?_) (fun c1 => ?_)
    · refine mk2_of fun d H' _ s1 e => kbad "states" 0 ?_ d H' s1 e
      unfold partsFault
      rw [if_neg (by simpa using c1)]
    · have w1 : whole n (some 1) (some 24) = true := by simpa using c1
      obtain ⟨m, rfl⟩ : ∃ m, n = .int m := by
        cases n with
        | int m => exact ⟨m, rfl⟩
        | _ => cases w1
      cases hn
      walk_at "r"
      refine ⟨_, _, rfl, hp, fun H1 s1 => ⟨_, rfl, ?_⟩⟩
      refine iteB (fun c2 => ?_) (fun c2 => ?_)
      · refine iteT ?_
        refine mk2_of fun d H' _ s2 e => kbad "pairs" 0 ?_ d H' (s1.trans s2) e
        unfold partsFault
        rw [if_pos w1, seq_not (by simpa using c2)]
      · have hsq : isSeq p = true := by simpa using c2
        have hp' : Dp K H y p := by
          cases hp with
          | dp h => exact h
          | dk h => cases hsq
        obtain ⟨a, ys, ds, rfl, hq, ha, hs⟩ := seq_dp hp' hsq
        have hlen := DpAll.len ha
        have hq1 : SqL K H1 a ys ∨ SqT K H1 a ys := hq.elim (fun z => .inl (s1.seq z)) (fun z => .inr (Same.sqT s1 z))
        walk_at "r"
        refine ⟨_, _, rfl, hq1, ?_⟩
        walk_at "r"
        refine iteB (fun c3 => ?_) (fun c3 => ?_)
        · refine mk2_of fun d H' _ s2 e => kbad "pairs" 0 ?_ d H' (s1.trans s2) e
          have z := of_decide_eq_true c3
          unfold partsFault
          rw [if_pos w1, hs]
          show (if ds.length ≤ 600 then _ else _) = _
          rw [if_neg (by omega)]
        · have hds : ds.length ≤ 600 := by
            have z := of_decide_eq_false c3
            omega
          have hF : partsFault (.int m) p = pairF (pairFault (m - 1) ds 0) := by
            unfold partsFault
            rw [if_pos w1, hs]
            show (if ds.length ≤ 600 then _ else _) = _
            rw [if_pos hds]
          walk_at "r"
          refine for_enumA hq1 (fun i σ H' => ∃ v w : Option V, σ = [some (.int m), some (.ref a), v, w] ∧ Same H1 H' ∧ i ≤ ds.length ∧ pairFault (m - 1) (ds.drop i) i = pairFault (m - 1) ds 0)
            ⟨none, none, rfl, Same.refl _, Nat.zero_le _, rfl⟩ (fun i σ H' ⟨_, _, _, s2, _⟩ => s2) ?_ ?_ rfl
          · rintro i z T σ H' hz ⟨v, w, rfl, s2, hi, e⟩ hT
            obtain ⟨d, hd, dz⟩ := DpAll.get ha hz
            have hil : i < ds.length := (List.getElem?_eq_some_iff.mp hd).1
            have ed : ds.drop i = d :: ds.drop (i + 1) := by
              rw [List.drop_eq_getElem_cons hil]
              have := (List.getElem?_eq_some_iff.mp hd).2
              rw [this]
            have s3 : Same H (upd H' T (.tup [.int (i : Nat), z])) := (s1.trans s2).trans (same_new hT)
            refine ⟨T, _, rfl, SqT.of upd_same, rfl, _, _, rfl, _, _, rfl, rfl, ?_⟩
            walk_at "r"
            refine ⟨_, _, m - 1, rfl, Dp.same s3 _ _ dz, fun H4 s4 => ⟨_, rfl, ?_⟩⟩
            refine iteB (fun c4 => ?_) (fun c4 => ?_)
            · have c5 : couple d (m - 1) = false := by simpa using c4
              walk_at "r"
              refine mk2_of fun d' H5 _ s5 e5 => kbad "pair" (i : Int) ?_ d' H5 (s3.trans (s4.trans s5)) e5
              rw [hF, ← e, ed]
              unfold pairFault
              rw [c5]
              rfl
            · have c5 : couple d (m - 1) = true := by simpa using c4
              refine ⟨_, _, rfl, s2.trans ((same_new hT).trans s4), hil, ?_⟩
              rw [← e, ed]
              conv => rhs; unfold pairFault
              rw [c5]
              rfl
          · rintro σ H' ⟨v, w, rfl, s2, hi, e⟩
            have hz : ds.drop ys.length = [] := by
              rw [hlen]
              exact List.drop_length
            rw [hz] at e
            exact kok (by rw [hF, ← e]; rfl) _ (s1.trans s2)
end
end Z

set_option Elab.async false
set_option linter.all false
set_option maxRecDepth 100000
namespace Z
open PySem L2
local macro_rules | `(tactic| walk_at "side") => `(tactic| first | omega | (unfold CMul; omega) | (unfold CDiv; omega) | (unfold CDivN; omega) | (unfold CPow; omega) | decide)
local macro_rules | `(tactic| walk_at "lst") => `(tactic| first | exact SqL.of (by assumption) | exact SqL.of upd_same | assumption | exact upd_same)
local macro_rules | `(tactic| walk_at "r1") => `(tactic| first | refine ⟨_, rfl, ?_⟩ | refine ⟨_, _, rfl, rfl, ?_⟩ | refine Or.inl ⟨_, rfl, ?_⟩ | refine And.intro rfl ?_ | refine ⟨_, _, _, _, rfl, rfl, by walk_at "lst", rfl, ?_⟩ | refine ⟨_, _, rfl, Or.inl (by walk_at "lst"), ?_⟩ | refine And.intro (by walk_at "side") ?_)
local macro_rules | `(tactic| walk_at "r") => `(tactic| repeat walk_at "r1")
abbrev s_closed : Stmt := top 12
/-- a new square at p: nothing else is touched -/
structure NewM (H H' : Hp) (p : Addr) (n : Nat) (M : Nat → Nat → Bool) (rs : List Addr) : Prop where
  same : Same H H'
  mat : MatAt H' p n M rs
  free : H p = none
  frees : ∀ r ∈ rs, H r = none
def spClosed (K : PySem.W.Frag) : Sp := fun vs H Q _ => ∃ (n : Nat) (a : Addr) (ys : List V) (ds : List PyData), vs = [.int (n : Int), .ref a] ∧ 1 ≤ n ∧ n ≤ 24 ∧ (SqL K H a ys ∨ SqT K H a ys) ∧ DpAll K H ys ds ∧ (∀ d ∈ ds, couple d ((n : Int) - 1) = true) ∧
  ∀ p rs H', NewM H H' p n (closeM n (initM (ds.map prOf)) n) rs → Q (.ref p) H'
section
variable {P : Program} {w : World} {K : PySem.W.Frag} {mg : Str → Option Value} {base : Heap}
theorem sc_closed : FnScope ["n", "pairs", "less", "middle", "one", "other", "low", "_", "high"] ["n", "pairs"] (defScope s_closed) := ⟨rfl, rfl, rfl, by decide +kernel, rfl, by decide +kernel, by decide +kernel⟩
theorem ok_closed {f : Addr} {fd : FuncData} (F : Fun K "_closed" "_closed" s_closed f fd) (T : Bl mg) : FnOk P w K mg base CX0 1 f fd ["n", "pairs"] (spClosed K) := by
  refine F.ok sc_closed (fun vs H Q E h => ?_) (fun cdv A outer s H vs Q E hr h => ?_)
  · obtain ⟨n, a, ys, ds, rfl, _⟩ := h
    rfl
  · obtain ⟨n, a, ys, ds, rfl, h1, h24, hq, ha, hc, k⟩ := h
    refine ⟨_,
      (pss_cons (ps_set (i := 2) sc_closed.nd rfl (Or.inr rfl) (pe_lc (own := [("_", 7)]) (by rfl) sc_closed.nd (pi_range1 (by rfl) T.n_range (pa_cons (pv 0) pa_nil)) (blkOk_by (own := [("_", 7)]) (by show blkC ["n", "pairs", "less", "middle", "one", "other", "low", "_", "high"] (defScope s_closed) _ _ = true; decide +kernel)) (fun _ _ _ _ _ => (pg_name (i := 7) sc_closed.nd rfl (Or.inl rfl))) (fun _ _ _ _ _ => pts_nil) (fun _ _ _ _ _ => (pe_op op_rep (pe_lst (pa_cons pe_bl pa_nil)) (pv 0)))))
      (pss_cons (ps_for PassesOwn.never rfl (kpi_seqA K (pv 1)) (pg_unA rfl (pgs_cons (pg_name (i := 4) sc_closed.nd rfl (Or.inl rfl)) (pgs_cons (pg_name (i := 5) sc_closed.nd rfl (Or.inl rfl)) pgs_nil)))
        (pss_one (ps_asg pe_bl (pg_sub (pe_ix (kix_list K) (pv 2) (pv 4) (fun _ _ => rfl)) (pv 5) set_list))))
      (pss_cons (ps_for PassesOwn.never rfl (pi_range1 (by rfl) T.n_range (pa_cons (pv 0) pa_nil)) (pg_name (i := 3) sc_closed.nd rfl (Or.inr rfl))
        (pss_one (ps_for PassesOwn.never rfl (pi_range1 (by rfl) T.n_range (pa_cons (pv 0) pa_nil)) (pg_name (i := 6) sc_closed.nd rfl (Or.inr rfl))
          (pss_one (ps_if (pt_val (pe_ix (kix_list K) (pe_ix (kix_list K) (pv 2) (pv 6) (fun _ _ => rfl)) (pv 3) (fun _ _ => rfl)))
            (pss_one (ps_asg (pe_lc (own := [("high", 8)]) (by rfl) sc_closed.nd (pi_range1 (by rfl) T.n_range (pa_cons (pv 0) pa_nil)) (blkOk_by (own := [("high", 8)]) (by show blkC ["n", "pairs", "less", "middle", "one", "other", "low", "_", "high"] (defScope s_closed) _ _ = true; decide +kernel)) (fun _ _ _ _ _ => (pg_name (i := 8) sc_closed.nd rfl (Or.inl rfl))) (fun _ _ _ _ _ => pts_nil) (fun _ _ _ _ _ => (pe_or (pe_ix (kix_list K) (pe_ix (kix_list K) (pv 2) (pv 6) (fun _ _ => rfl)) (pv 8) (fun _ _ => rfl)) (pe_one (pe_ix (kix_list K) (pe_ix (kix_list K) (pv 2) (pv 3) (fun _ _ => rfl)) (pv 8) (fun _ _ => rfl)))))) (pg_sub (pv 2) (pv 6) set_list)))
            pss_nil)))))
      (pss_one (ps_ret (pv 2))))))
      , ?_⟩
    walk_at "r"
    intro D hD
    refine lc_range (lo := 0) (n := n) (fun i H' => ∃ rs : List Addr, Same H H' ∧ H' D = some (.lst (rs.map V.ref)) ∧ rs.length = i ∧ (∀ r ∈ rs, H' r = some (.lst (rowV n fun _ => false))) ∧ rs.Nodup ∧ D ∉ rs ∧ ∀ r ∈ rs, H r = none)
      ⟨[], same_new hD, upd_same, rfl, (fun _ h => nomatch h), .nil, (fun h => nomatch h), (fun _ h => nomatch h)⟩ ?_ ?_
    · rintro i H' hi ⟨rs, s1, eD, el, er, nd, nD, fr⟩
      refine ⟨rfl, ?_⟩
      refine ⟨(by show 1 ≤ sizeLine; decide), fun p hp => ⟨_, rfl, p, (n : Int), _, rfl, rfl, upd_same, by omega, by omega, ?_, fun q hq => ?_⟩⟩
      · show 1 * n ≤ sizeLine
        exact Nat.le_of_lt (small1000 (by omega))
      · have pD : p ≠ D := ne_of_none' eD hp
        have hq' : H' q = none := by
          cases e : H' q with
          | none => rfl
          | some o =>
            rw [upd_ne (ne_of_none e hp), e] at hq
            cases hq
        have qp : q ≠ p := fun z => by
          rw [z, upd_same] at hq
          cases hq
        have qD : q ≠ D := ne_of_none' eD hq'
        have eD2 : upd (upd H' p (.lst [.bl false])) q (.lst (List.replicate (n : Int).toNat [V.bl false]).flatten) D = some (.lst (rs.map V.ref)) := by
          rw [upd_ne qD.symm, upd_ne pD.symm]
          exact eD
        refine ⟨rs.map V.ref, eD2, small1000 (by rw [List.length_map]; omega), rs ++ [q], ?_, ?_, ?_, ?_, ?_, ?_, ?_⟩
        · exact same_mut ((s1.trans (same_new hp)).trans (same_new hq)) hD
        · rw [upd_same, List.map_append]
          rfl
        · rw [List.length_append, el]
          rfl
        · intro r hr
          rcases List.mem_append.mp hr with hr | hr
          · have e := er r hr
            have rD : r ≠ D := fun z => nD (z ▸ hr)
            rw [upd_ne rD, upd_ne (ne_of_none e hq'), upd_ne (ne_of_none e hp)]
            exact e
          · have e : r = q := by simpa using hr
            subst e
            rw [upd_ne qD, upd_same]
            exact congrArg (fun l => some (HO.lst l)) rowV_rep
        · refine List.nodup_append.mpr ⟨nd, by simp, fun a ha b hb => ?_⟩
          have e : b = q := by simpa using hb
          subst e
          exact ne_of_none (er a ha) hq'
        · intro hm
          rcases List.mem_append.mp hm with hm | hm
          · exact nD hm
          · have e : D = q := by simpa using hm
            exact qD e.symm
        · intro r hr
          rcases List.mem_append.mp hr with hr | hr
          · exact fr r hr
          · have e : r = q := by simpa using hr
            subst e
            exact s1.free hq'
    · rintro H1 ⟨rs, s1, eD, el, er, nd, nD, fr⟩
      have M1 : NewM H H1 D n (initM []) rs := ⟨s1, ⟨eD, el, fun x r e => by
        rw [er r (List.mem_of_getElem? e)]
        exact congrArg (fun l => some (HO.lst l)) (rowV_congr fun y _ => by simp [initM]), nd, nD⟩, hD, fr⟩
      clear s1 eD el er nd nD fr
      have hlen := DpAll.len ha
      refine for_seqA (H0 := H) hq (fun i σ H' => ∃ v4 v5 : Option V, σ = [some (.int (n : Int)), some (.ref a), some (.ref D), none, v4, v5, none, none, none] ∧ NewM H H' D n (initM ((ds.map prOf).take i)) rs)
        ⟨none, none, rfl, M1⟩ (fun i σ H' ⟨_, _, _, m⟩ => m.same) ?_ ?_ rfl
      · rintro i z σ H' hz ⟨v4, v5, rfl, m⟩
        obtain ⟨d, hd, dz⟩ := DpAll.get ha hz
        have hc1 := hc d (List.mem_of_getElem? hd)
        obtain ⟨x, y, e1, e2, hx, hy⟩ := couple_ok hc1
        have dz' := Dp.same m.same _ _ dz
        have hxn : x < n := by omega
        have hyn : y < n := by omega
        obtain ⟨r, hr, har, her⟩ := m.mat.get hxn
        have fin : NewM H (upd H' r (.lst ((rowV n (initM ((ds.map prOf).take i) x)).set y (.bl true)))) D n (initM ((ds.map prOf).take (i + 1))) rs := by
          refine ⟨same_mut m.same (m.frees r (List.mem_of_getElem? hr)), ?_, m.free, m.frees⟩
          have q := m.mat.put (b := true) hr hyn
          rw [initM_snoc] at q
          have e3 : (ds.map prOf).take (i + 1) = (ds.map prOf).take i ++ [(x, y)] := by
            rw [List.take_add_one, List.getElem?_map, hd]
            show _ ++ [prOf d] = _
            rw [e2]
          rw [e3]
          exact q
        refine ⟨?_⟩
        obtain ⟨p, zs, es, rfl, hq2, ha2, hs2⟩ := seq_dp dz' (by unfold couple at hc1; cases d <;> first | rfl | cases hc1)
        rw [e1] at hs2
        cases hs2
        cases ha2 with
        | cons a0 r0 =>
          cases r0 with
          | cons a1 r1 =>
            cases r1
            cases a0
            cases a1
            rcases hq2 with hq2 | hq2
            · refine .inr ⟨p, _, rfl, hq2, rfl, _, _, rfl, _, _, rfl, rfl, ?_⟩
              walk_at "r"
              refine ⟨_, _, _, _, rfl, rfl, SqL.of m.mat.top, har, _, rfl, _, _, _, _, rfl, rfl, her, ixN_nat (by rw [rowV_len]; exact hyn), ?_⟩
              exact ⟨some (.int (x : Int)), some (.int (y : Int)), rfl, fin⟩
            · refine .inl ⟨p, _, rfl, hq2, rfl, _, _, rfl, _, _, rfl, rfl, ?_⟩
              walk_at "r"
              refine ⟨_, _, _, _, rfl, rfl, SqL.of m.mat.top, har, _, rfl, _, _, _, _, rfl, rfl, her, ixN_nat (by rw [rowV_len]; exact hyn), ?_⟩
              exact ⟨some (.int (x : Int)), some (.int (y : Int)), rfl, fin⟩
      · rintro σ H' ⟨v4, v5, rfl, m⟩
        have e0 : (ds.map prOf).take ys.length = ds.map prOf := by
          rw [hlen, List.take_of_length_le (by rw [List.length_map]; exact Nat.le_refl _)]
        rw [e0] at m
        clear M1 e0
        walk_at "r"
        refine for_range (lo := 0) (n := n) (fun i σ H2 => ∃ (v3 v4 v5 v6 : Option V) (rs' : List Addr), σ = [some (.int (n : Int)), some (.ref a), some (.ref D), v3, v4, v5, v6, none, none] ∧ NewM H H2 D n (closeM n (initM (ds.map prOf)) i) rs')
          ⟨none, v4, v5, none, rs, rfl, m⟩ ?_ ?_
        · rintro mid σ H2 hmid ⟨v3, v4', v5', v6, rs2, rfl, m2⟩
          walk_at "r"
          refine for_range (lo := 0) (n := n) (fun i σ H3 => ∃ (v6 : Option V) (rs' : List Addr), σ = [some (.int (n : Int)), some (.ref a), some (.ref D), some (.int ((0 : Int) + mid)), v4', v5', v6, none, none] ∧ NewM H H3 D n (relaxes (closeM n (initM (ds.map prOf)) mid) mid i) rs')
            ⟨v6, rs2, rfl, m2⟩ ?_ ?_
          · rintro low σ H3 hlow ⟨v6', rs3, rfl, m3⟩
            have c0 : ∀ z : Nat, (0 : Int) + (z : Nat) = ((z : Nat) : Int) := fun z => by omega
            obtain ⟨r, hr, har, her⟩ := m3.mat.get hlow
            obtain ⟨r2, hr2, har2, her2⟩ := m3.mat.get hmid
            walk_at "r"
            rw [c0, c0]
            refine ⟨_, _, _, _, rfl, rfl, SqL.of m3.mat.top, har, _, rfl, _, _, _, _, rfl, rfl, SqL.of her, rowV_at hmid, _, rfl, ?_⟩
            refine iteB (fun c => ?_) (fun c => ?_)
            · walk_at "r"
              intro D2 hD2
              refine lc_range (lo := 0) (n := n) (fun j H4 => Same H3 H4 ∧ H4 D2 = some (.lst (rowV j fun b => relaxes (closeM n (initM (ds.map prOf)) mid) mid low low b || relaxes (closeM n (initM (ds.map prOf)) mid) mid low mid b)))
                ⟨same_new hD2, upd_same⟩ ?_ ?_
              · rintro j H4 hj ⟨s4, e4⟩
                refine ⟨rfl, ?_⟩
                have fin : ∀ b, b = (relaxes (closeM n (initM (ds.map prOf)) mid) mid low low j || relaxes (closeM n (initM (ds.map prOf)) mid) mid low mid j) →
                    ∃ acc, H4 D2 = some (.lst acc) ∧ acc.length < sizeLine ∧ Same H3 (upd H4 D2 (.lst (acc ++ [V.bl b]))) ∧ upd H4 D2 (.lst (acc ++ [V.bl b])) D2 =
                      some (.lst (rowV (j + 1) fun b => relaxes (closeM n (initM (ds.map prOf)) mid) mid low low b || relaxes (closeM n (initM (ds.map prOf)) mid) mid low mid b)) := fun b eb =>
                  ⟨_, e4, small1000 (by rw [rowV_len]; omega), same_mut s4 hD2, by rw [upd_same, eb]; exact congrArg (fun l => some (HO.lst l)) rowV_snoc⟩
                refine ⟨_, rfl, _, rfl, _, _, _, _, rfl, rfl, SqL.of (s4 _ _ m3.mat.top), har, _, rfl, _, _, _, _, rfl, rfl, SqL.of (s4 _ _ her), (by rw [c0]; exact rowV_at hj), _, rfl, ?_⟩
                refine iteB (fun c2 => ?_) (fun c2 => ?_)
                · exact fin true (by rw [c2]; rfl)
                · refine ⟨_, rfl, _, rfl, _, _, _, _, rfl, rfl, SqL.of (s4 _ _ m3.mat.top), har2, _, rfl, _, _, _, _, rfl, rfl, SqL.of (s4 _ _ her2), (by rw [c0]; exact rowV_at hj), ?_⟩
                  exact fin _ (by rw [c2]; rfl)
              · rintro H4 ⟨s4, e4⟩
                have m4 := m3.mat.same s4
                have nD2 : D2 ∉ rs3 := fun hm => by
                  obtain ⟨x, hx⟩ := List.getElem?_of_mem hm
                  exact ne_of_none (m3.mat.row x D2 hx) hD2 rfl
                have np : D2 ≠ D := ne_of_none' m3.mat.top hD2
                have q := m4.swap (x := low) e4 nD2 np
                walk_at "r"
                refine ⟨_, _, _, _, rfl, rfl, m4.top, ixN_nat (by rw [List.length_map, m4.len]; exact hlow), ?_⟩
                refine ⟨_, rs3.set low D2, rfl, same_mut (m3.same.trans s4) m3.free, ?_, m3.free, fun r hr => ?_⟩
                · have er : relaxes (closeM n (initM (ds.map prOf)) mid) mid (low + 1) = (fun a => if a = low then (fun b => relaxes (closeM n (initM (ds.map prOf)) mid) mid low low b || relaxes (closeM n (initM (ds.map prOf)) mid) mid low mid b) else relaxes (closeM n (initM (ds.map prOf)) mid) mid low a) := by
                    show relax _ mid low = _
                    unfold relax
                    rw [if_pos c]
                  rw [er]
                  exact q
                · rcases List.mem_or_eq_of_mem_set hr with h | h
                  · exact m3.frees r h
                  · rw [h]
                    exact m3.same.free hD2
            · have er : relaxes (closeM n (initM (ds.map prOf)) mid) mid (low + 1) = relaxes (closeM n (initM (ds.map prOf)) mid) mid low := by
                show relax _ mid low = _
                unfold relax
                rw [if_neg (by rw [c]; exact Bool.false_ne_true)]
              refine ⟨_, rs3, rfl, ?_⟩
              rw [er]
              exact m3
          · rintro σ H3 ⟨v6', rs3, rfl, m3⟩
            exact ⟨_, _, _, _, rs3, rfl, m3⟩
        · rintro σ H2 ⟨v3, v4', v5', v6, rs2, rfl, m2⟩
          walk_at "r"
          exact k D rs2 H2 m2
end
end Z

set_option Elab.async false
set_option linter.all false
set_option maxRecDepth 100000
namespace Z
open PySem L2
local macro_rules | `(tactic| walk_at "side") => `(tactic| first | omega | (unfold CMul; omega) | (unfold CDiv; omega) | (unfold CDivN; omega) | (unfold CPow; omega) | decide)
local macro_rules | `(tactic| walk_at "lst") => `(tactic| first | exact SqL.of (by assumption) | exact SqL.of upd_same | assumption | exact upd_same)
local macro_rules | `(tactic| walk_at "r1") => `(tactic| first | refine ⟨_, rfl, ?_⟩ | refine ⟨_, _, rfl, rfl, ?_⟩ | refine Or.inl ⟨_, rfl, ?_⟩ | refine And.intro rfl ?_ | refine ⟨_, _, _, _, rfl, rfl, by walk_at "lst", rfl, ?_⟩ | refine ⟨_, _, rfl, Or.inl (by walk_at "lst"), ?_⟩ | refine And.intro (by walk_at "side") ?_)
local macro_rules | `(tactic| walk_at "r") => `(tactic| repeat walk_at "r1")
abbrev s_cc : Stmt := top 13
abbrev s_cov : Stmt := top 14
def findN (p : Nat → Bool) : Nat → Nat → Option Nat
  | _, 0 => none
  | i, k + 1 => if p i then some i else findN p (i + 1) k
def tagO (s : Str) : Option Nat → Option (Str × Int) | some x => some (s, (x : Int)) | none => none
def orO (a b : Option (Str × Int)) : Option (Str × Int) := match a with | some x => some x | none => b
def closedFault (n : Nat) (M : Nat → Nat → Bool) : Option (Str × Int) := orO (tagO "ring" (findN (fun x => M x x) 0 n)) (tagO "least" (findN (fun x => !M 0 x) 1 (n - 1)))
theorem cf_ring {n x : Nat} {M : Nat → Nat → Bool} (h : findN (fun x => M x x) 0 n = some x) : closedFault n M = some (("ring" : Str), (x : Int)) := by
  unfold closedFault
  rw [h]
  rfl
theorem cf_least {n x : Nat} {M : Nat → Nat → Bool} (h : findN (fun x => M x x) 0 n = none) (h2 : findN (fun x => !M 0 x) 1 (n - 1) = some x) : closedFault n M = some (("least" : Str), (x : Int)) := by
  unfold closedFault
  rw [h, h2]
  rfl
theorem cf_none {n : Nat} {M : Nat → Nat → Bool} (h : findN (fun x => M x x) 0 n = none) (h2 : findN (fun x => !M 0 x) 1 (n - 1) = none) : closedFault n M = none := by
  unfold closedFault
  rw [h, h2]
  rfl
theorem findN_step {p : Nat → Bool} {i k : Nat} (h : p i = false) : findN p i (k + 1) = findN p (i + 1) k := by
  show (if p i = true then some i else findN p (i + 1) k) = _
  rw [h]
  rfl
theorem findN_hit {p : Nat → Bool} {i k : Nat} (h : p i = true) : findN p i (k + 1) = some i := by
  show (if p i = true then some i else findN p (i + 1) k) = _
  rw [h]
  rfl
def spCC (C : Addr) : Sp := fun vs H Q E => ∃ (p : Addr) (n : Nat) (M : Nat → Nat → Bool) (rs : List Addr), vs = [.ref p] ∧ 1 ≤ n ∧ n ≤ 24 ∧ MatAt H p n M rs ∧
  (closedFault n M = none → Q .non H) ∧ (∀ what at_, closedFault n M = some (what, at_) → EBO C H (.str what) (.int at_) E)
section
variable {P : Program} {w : World} {K : PySem.W.Frag} {mg : Str → Option Value} {base : Heap}
theorem sc_cc : FnScope ["less", "state"] ["less"] (defScope s_cc) := ⟨rfl, rfl, rfl, by decide +kernel, rfl, by decide +kernel, by decide +kernel⟩
theorem ok_cc {f C fI : Addr} {fd fdI : FuncData} (F : Fun K "_check_closed" "_check_closed" s_cc f fd) (T : Bl mg) (B : ExC K mg C fI) (FB : Fun K "__init__" "BadOrder.__init__" s_bo fI fdI) (bB : Binds K fdI ["self", "what", "at"] []) :
    FnOk P w K mg base (L2.CX P w) 3 f fd ["less"] (spCC C) := by
  have GB : FnOk P w K mg base CX0 1 fI fdI ["self", "what", "at"] (spEI C) := ok_bo FB B
  refine F.okX sc_cc (fun vs H Q E h => ?_) (fun cdv A outer s H vs Q E hr h => ?_)
  · obtain ⟨p, n, M, rs, rfl, _⟩ := h
    rfl
  · obtain ⟨p, n, M, rs, rfl, h1, h24, m, kok, kbad⟩ := h
    have c0 : ∀ z : Nat, (0 : Int) + (z : Nat) = ((z : Nat) : Int) := fun z => by omega
    have ln : (rs.map V.ref).length = n := by rw [List.length_map, m.len]
    have hq : SqL K H p (rs.map V.ref) ∨ SqT K H p (rs.map V.ref) := .inl (SqL.of m.top)
    refine ⟨_,
      (pss_cons (ps_for (passes_of rfl) rfl (pi_range1 (by rfl) T.n_range (pa_cons (pe_callB (klen K) (by rfl) T.n_len PySem.boot_len (pa_cons (pv 0) pa_nil)) pa_nil)) (pg_name (i := 1) sc_cc.nd rfl (Or.inl rfl))
        (pss_one (ps_if (pt_val (pe_ix (kix_list K) (pe_ix (kix_list K) (pv 0) (pv 1) (fun _ _ => rfl)) (pv 1) (fun _ _ => rfl)))
          (pss_one (ps_raise rfl (takes_of rfl rfl rfl rfl) (pmk_oex B.ox B.iC B.tI GB (hr.mono (by decide)) bB .nil pass0 (by rfl) B.g (pa_cons pe_str (pa_cons (pv 1) pa_nil)))))
          pss_nil)))
      (pss_one (ps_for (passes_of rfl) rfl (pi_range2 (by rfl) T.n_range (pa_cons pe_int (pa_cons (pe_callB (klen K) (by rfl) T.n_len PySem.boot_len (pa_cons (pv 0) pa_nil)) pa_nil))) (pg_name (i := 1) sc_cc.nd rfl (Or.inl rfl))
        (pss_one (ps_if (pt_not (pt_val (pe_ix (kix_list K) (pe_ix (kix_list K) (pv 0) pe_int (fun _ _ => rfl)) (pv 1) (fun _ _ => rfl))))
          (pss_one (ps_raise rfl (takes_of rfl rfl rfl rfl) (pmk_oex B.ox B.iC B.tI GB (hr.mono (by decide)) bB .nil pass0 (by rfl) B.g (pa_cons pe_str (pa_cons (pv 1) pa_nil)))))
          pss_nil)))))
      , ?_⟩
    walk_at "r"
    refine ⟨_, _, rfl, hq, ?_⟩
    rw [ln]
    walk_at "r"
    refine for_range (lo := 0) (n := n) (fun i σ H' => ∃ v : Option V, σ = [some (.ref p), v] ∧ H = H' ∧ i ≤ n ∧ findN (fun x => M x x) i (n - i) = findN (fun x => M x x) 0 n) ⟨none, rfl, rfl, Nat.zero_le _, rfl⟩ ?_ ?_
    · rintro i σ H' hi ⟨v, rfl, rfl, hin, e⟩
      obtain ⟨r, hr1, har, her⟩ := m.get hi
      have ek : n - i = (n - (i + 1)) + 1 := by omega
      rw [c0]
      walk_at "r"
      refine ⟨_, _, _, _, rfl, rfl, SqL.of m.top, har, _, rfl, _, _, _, _, rfl, rfl, SqL.of her, rowV_at hi, _, rfl, ?_⟩
      refine iteB (fun c => ?_) (fun c => ?_)
      · walk_at "r"
        refine mk2_of fun d' H5 _ s5 e5 => kbad "ring" (i : Int) (cf_ring ?_) d' H5 s5 e5
        rw [← e, ek]
        exact findN_hit (p := fun x => M x x) c
      · refine ⟨_, rfl, rfl, hi, ?_⟩
        rw [← e, ek]
        exact (findN_step (p := fun x => M x x) c).symm
    · rintro σ H' ⟨v, rfl, rfl, hin, e⟩
      have e0 : findN (fun x => M x x) 0 n = none := by
        rw [← e, Nat.sub_self]
        rfl
      walk_at "r"
      refine ⟨_, _, rfl, hq, ?_⟩
      rw [ln]
      walk_at "r"
      have en : ((n : Int) - 1).toNat = n - 1 := by omega
      have h0n : 0 < n := by omega
      obtain ⟨r0, hr0, har0, her0⟩ := m.get h0n
      have c1 : ∀ z : Nat, (1 : Int) + (z : Nat) = ((1 + z : Nat) : Int) := fun z => by omega
      refine ⟨_, _, rfl, ⟨by omega, by omega, by omega, by omega⟩, ?_⟩
      rw [en]
      refine for_range (lo := 1) (n := n - 1) (fun i σ H' => ∃ v : Option V, σ = [some (.ref p), v] ∧ H = H' ∧ i ≤ n - 1 ∧ findN (fun x => !M 0 x) (1 + i) (n - 1 - i) = findN (fun x => !M 0 x) 1 (n - 1)) ⟨v, rfl, rfl, Nat.zero_le _, rfl⟩ ?_ ?_
      · rintro i σ H' hi ⟨v, rfl, rfl, hin2, e2⟩
        have ek : n - 1 - i = (n - 1 - (i + 1)) + 1 := by omega
        rw [c1]
        walk_at "r"
        refine ⟨_, _, _, _, rfl, rfl, SqL.of m.top, har0, _, rfl, _, _, _, _, rfl, rfl, SqL.of her0, rowV_at (show 1 + i < n by omega), _, rfl, ?_⟩
        refine iteB (fun c => ?_) (fun c => ?_)
        · walk_at "r"
          refine mk2_of fun d' H5 _ s5 e5 => kbad "least" ((1 + i : Nat) : Int) (cf_least e0 ?_) d' H5 s5 e5
          rw [← e2, ek]
          exact findN_hit (p := fun x => !M 0 x) c
        · refine ⟨_, rfl, rfl, by omega, ?_⟩
          rw [← e2, ek]
          exact (findN_step (p := fun x => !M 0 x) c).symm
      · rintro σ H' ⟨v, rfl, rfl, hin2, e2⟩
        refine kok (cf_none e0 ?_)
        rw [← e2, Nat.sub_self]
        rfl
def covB (n : Nat) (M : Nat → Nat → Bool) (low high : Nat) : Bool := M low high && !(((List.range n).map fun mid => M low mid && M mid high).any id)
def spCov : Sp := fun vs H Q _ => ∃ (p : Addr) (n : Nat) (M : Nat → Nat → Bool) (rs : List Addr) (low high : Nat), vs = [.ref p, .int (low : Int), .int (high : Int)] ∧ low < n ∧ high < n ∧ n ≤ 24 ∧ MatAt H p n M rs ∧
  ∀ H', Same H H' → Q (.bl (covB n M low high)) H'
theorem sc_cov : FnScope ["less", "low", "high", "mid"] ["less", "low", "high"] (defScope s_cov) := ⟨rfl, rfl, rfl, by decide +kernel, rfl, by decide +kernel, by decide +kernel⟩
theorem ok_cov {f : Addr} {fd : FuncData} (F : Fun K "_is_cover" "_is_cover" s_cov f fd) (T : Bl mg) : FnOk P w K mg base CX0 1 f fd ["less", "low", "high"] spCov := by
  refine F.ok sc_cov (fun vs H Q E h => ?_) (fun cdv A outer s H vs Q E hr h => ?_)
  · obtain ⟨p, n, M, rs, low, high, rfl, _⟩ := h
    rfl
  · obtain ⟨p, n, M, rs, low, high, rfl, hl, hh, h24, m, k⟩ := h
    have c0 : ∀ z : Nat, (0 : Int) + (z : Nat) = ((z : Nat) : Int) := fun z => by omega
    have ln : (rs.map V.ref).length = n := by rw [List.length_map, m.len]
    obtain ⟨r, hr1, har, her⟩ := m.get hl
    refine ⟨_,
      (pss_one (ps_ret (pe_and (pe_ix (kix_list K) (pe_ix (kix_list K) (pv 0) (pv 1) (fun _ _ => rfl)) (pv 2) (fun _ _ => rfl)) (pe_one (pe_not (pe_callB (kany K rfl) (by rfl) T.n_any (by decide +kernel) (pa_cons (pe_lc (own := [("mid", 3)]) (by rfl) sc_cov.nd (pi_range1 (by rfl) T.n_range (pa_cons (pe_callB (klen K) (by rfl) T.n_len PySem.boot_len (pa_cons (pv 0) pa_nil)) pa_nil)) (blkOk_by (own := [("mid", 3)]) (by show blkC ["less", "low", "high", "mid"] (defScope s_cov) _ _ = true; decide +kernel)) (fun _ _ _ _ _ => (pg_name (i := 3) sc_cov.nd rfl (Or.inl rfl))) (fun _ _ _ _ _ => pts_nil) (fun _ _ _ _ _ => (pe_and (pe_ix (kix_list K) (pe_ix (kix_list K) (pv 0) (pv 1) (fun _ _ => rfl)) (pv 3) (fun _ _ => rfl)) (pe_one (pe_ix (kix_list K) (pe_ix (kix_list K) (pv 0) (pv 3) (fun _ _ => rfl)) (pv 2) (fun _ _ => rfl)))))) pa_nil)))))))
      , ?_⟩
    walk_at "r"
    refine ⟨_, _, _, _, rfl, rfl, SqL.of m.top, har, _, rfl, _, _, _, _, rfl, rfl, SqL.of her, rowV_at hh, _, rfl, ?_⟩
    refine iteB (fun c => ?_) (fun c => ?_)
    · walk_at "r"
      refine ⟨_, _, rfl, .inl (SqL.of m.top), ?_⟩
      rw [ln]
      walk_at "r"
      intro D hD
      refine lc_range (lo := 0) (n := n) (fun j H4 => Same H H4 ∧ H4 D = some (.lst (rowV j fun mid => M low mid && M mid high))) ⟨same_new hD, upd_same⟩ ?_ ?_
      · rintro j H4 hj ⟨s4, e4⟩
        refine ⟨rfl, ?_⟩
        obtain ⟨rj, hrj, harj, herj⟩ := m.get hj
        have fin : ∀ b, b = (M low j && M j high) → ∃ acc, H4 D = some (.lst acc) ∧ acc.length < sizeLine ∧ Same H (upd H4 D (.lst (acc ++ [V.bl b]))) ∧
            upd H4 D (.lst (acc ++ [V.bl b])) D = some (.lst (rowV (j + 1) fun mid => M low mid && M mid high)) := fun b eb =>
          ⟨_, e4, small1000 (by rw [rowV_len]; omega), same_mut s4 hD, by rw [upd_same, eb]; exact congrArg (fun l => some (HO.lst l)) rowV_snoc⟩
        refine ⟨_, rfl, _, rfl, _, _, _, _, rfl, rfl, SqL.of (s4 _ _ m.top), har, _, rfl, _, _, _, _, rfl, rfl, SqL.of (s4 _ _ her), (by rw [c0]; exact rowV_at hj), _, rfl, ?_⟩
        refine iteB (fun c2 => ?_) (fun c2 => ?_)
        · refine ⟨_, rfl, _, rfl, _, _, _, _, rfl, rfl, SqL.of (s4 _ _ m.top), (by rw [c0]; exact harj), _, rfl, _, _, _, _, rfl, rfl, SqL.of (s4 _ _ herj), rowV_at hh, ?_⟩
          exact fin _ (by rw [c2]; rfl)
        · exact fin false (by rw [c2]; rfl)
      · rintro H4 ⟨s4, e4⟩
        have el : rowV n (fun mid => M low mid && M mid high) = ((List.range n).map fun mid => M low mid && M mid high).map V.bl := by
          unfold rowV
          rw [List.map_map]
          rfl
        refine ⟨D, _, rfl, SqL.of (by rw [e4, el]), _, rfl, ?_⟩
        have q := k H4 s4
        unfold covB at q
        rw [c, Bool.true_and] at q
        exact q
    · have q := k H (Same.refl _)
      unfold covB at q
      rw [c, Bool.false_and] at q
      exact q
end
end Z

set_option Elab.async false
set_option linter.all false
set_option maxRecDepth 100000
set_option maxHeartbeats 3300000
namespace Z
open PySem L2
local macro_rules | `(tactic| walk_at "side") => `(tactic| first | omega | (unfold CMul; omega) | (unfold CDiv; omega) | (unfold CDivN; omega) | (unfold CPow; omega) | decide)
local macro_rules | `(tactic| walk_at "lst") => `(tactic| first | exact SqL.of (by assumption) | exact SqL.of upd_same | assumption | exact upd_same)
local macro_rules | `(tactic| walk_at "r1") => `(tactic| first | refine ⟨_, rfl, ?_⟩ | refine ⟨_, _, rfl, rfl, ?_⟩ | refine Or.inl ⟨_, rfl, ?_⟩ | refine And.intro rfl ?_ | refine ⟨_, _, _, _, rfl, rfl, by walk_at "lst", rfl, ?_⟩ | refine ⟨_, _, rfl, Or.inl (by walk_at "lst"), ?_⟩ | refine And.intro (by walk_at "side") ?_)
local macro_rules | `(tactic| walk_at "r") => `(tactic| repeat walk_at "r1")
abbrev s_oi : Stmt := inClass (top 15) 0
structure OrC (K : PySem.W.Frag) (C : Addr) : Prop where
  cl : Cls K C
  a1 : NoAttr K C "n"
  a2 : NoAttr K C "_above"
  a3 : NoAttr K C "_below"
  a4 : NoAttr K C "_covers"
  a5 : NoAttr K C "_ends"
  a6 : NoAttr K C "edges"
def prsOf (p : PyData) : List (Nat × Nat) := match seqOf p with | some ds => ds.map prOf | none => []
def clM (n : Nat) (p : PyData) : Nat → Nat → Bool := closeM n (initM (prsOf p)) n
def natOf (d : PyData) : Nat := match d with | .int m => m.toNat | _ => 0
def ordFault (n p : PyData) : Option (Str × Int) := orO (partsFault n p) (closedFault (natOf n) (clM (natOf n) p))
def spOI (K : PySem.W.Frag) (C BO : Addr) : Sp := fun vs H Q E => ∃ (o dx : Addr) (x y : V) (n p : PyData), vs = [.ref o, x, y] ∧ H o = some (.ins C dx []) ∧ Dp K H x n ∧ AnyD K H y p ∧
  (ordFault n p = none → ∀ H', Keep o H H' → OrdF H' o C dx (natOf n) (clM (natOf n) p) (covB (natOf n) (clM (natOf n) p)) → Q .non H') ∧
  (∀ what at_, ordFault n p = some (what, at_) → EBO BO H (.str what) (.int at_) E)
section
variable {P : Program} {w : World} {K : PySem.W.Frag} {mg : Str → Option Value} {base : Heap}
theorem pf_all {high : Int} : ∀ {ds : List PyData} {i : Nat}, pairFault high ds i = none → ∀ d ∈ ds, couple d high = true
  | [], _, _, d, hd => nomatch hd
  | e :: ds, i, h, d, hd => by
    unfold pairFault at h
    by_cases c : couple e high = true
    · rw [if_pos c] at h
      rcases List.mem_cons.mp hd with rfl | hd
      · exact c
      · exact pf_all h d hd
    · rw [if_neg c] at h
      cases h
theorem parts_ok {n p : PyData} (h : partsFault n p = none) : ∃ m : Nat, n = .int (m : Int) ∧ 1 ≤ m ∧ m ≤ 24 ∧ ∃ ds, seqOf p = some ds ∧ ∀ d ∈ ds, couple d ((m : Int) - 1) = true := by
  unfold partsFault at h
  by_cases hw : whole n (some 1) (some 24) = true
  · rw [if_pos hw] at h
    cases n with
    | int z =>
      simp only [whole, Bool.and_eq_true, decide_eq_true_eq] at hw
      have ez : ((z.toNat : Nat) : Int) = z := by omega
      refine ⟨z.toNat, by rw [ez], by omega, by omega, ?_⟩
      cases hs : seqOf p with
      | none =>
        rw [hs] at h
        cases h
      | some ds =>
        rw [hs] at h
        refine ⟨ds, rfl, ?_⟩
        have h2 : (if ds.length ≤ 600 then pairF (pairFault (z - 1) ds 0) else some ("pairs", 0)) = none := h
        by_cases hl : ds.length ≤ 600
        · rw [if_pos hl] at h2
          rw [ez]
          cases hf : pairFault (z - 1) ds 0 with
          | none => exact pf_all hf
          | some i =>
            rw [hf] at h2
            cases h2
        · rw [if_neg hl] at h2
          cases h2
    | _ => cases hw
  · rw [if_neg hw] at h
    cases h
theorem isSeq_of {p : PyData} {ds : List PyData} (h : seqOf p = some ds) : isSeq p = true := by
  cases p <;> first | rfl | cases h
theorem sc_oi : FnScope ["self", "n", "pairs", "less", "states", "low", "high", "state", "cover"] ["self", "n", "pairs"] (defScope s_oi) := ⟨rfl, rfl, rfl, by decide +kernel, rfl, by decide +kernel, by decide +kernel⟩
theorem ok_oi {f C BO : Addr} {fd : FuncData} (F : Fun K "__init__" "Order.__init__" s_oi f fd) (T : Bl mg) (OC : OrC K C) (c_check_parts : Cal P w K mg base (L2.CX P w) "_check_parts" 3 (spParts K BO))
    (c_closed : Cal P w K mg base CX0 "_closed" 1 (spClosed K)) (c_check_closed : Cal P w K mg base (L2.CX P w) "_check_closed" 3 (spCC BO)) (c_is_cover : Cal P w K mg base CX0 "_is_cover" 1 spCov) :
    FnOk P w K mg base (L2.CX P w) 4 f fd ["self", "n", "pairs"] (spOI K C BO) := by
  refine F.okX sc_oi (fun vs H Q E h => ?_) (fun cdv A outer s H vs Q E hr h => ?_)
  · obtain ⟨o, dx, x, y, n, p, rfl, _⟩ := h
    rfl
  · obtain ⟨o, dx, x, y, n, p, rfl, ho, hn, hp, kok, kbad⟩ := h
    refine ⟨_,
      (pss_cons (ps_expr (pe_calX c_check_parts (hr.mono (by decide)) (by rfl) (passes_call (takes_of rfl rfl rfl rfl) (fun _ _ _ _ h => h)) (pa_cons (pv 1) (pa_cons (pv 2) pa_nil))))
      (pss_cons (ps_set (i := 3) sc_oi.nd rfl (Or.inr rfl) (pe_cal c_closed (hr.mono (by decide)) (by rfl) (pa_cons (pv 1) (pa_cons (pv 2) pa_nil))))
      (pss_cons (ps_expr (pe_calX c_check_closed (hr.mono (by decide)) (by rfl) (passes_call (takes_of rfl rfl rfl rfl) (fun _ _ _ _ h => h)) (pa_cons (pv 3) pa_nil)))
      (pss_cons (ps_set (i := 4) sc_oi.nd rfl (Or.inr rfl) (pe_listRg rfl (by rfl) T.n_list (prg_1 (by rfl) T.n_range (pv 1))))
      (pss_cons (ps_fld (pv 0) (pv 1) rfl)
      (pss_cons (ps_fld (pv 0) (pe_callTy (ktuple_of K) (by rfl) T.n_tuple (by decide +kernel) (pa_cons (pe_lc (own := [("low", 5)]) (by rfl) sc_oi.nd (kpi_list K (pv 4)) (blkOk_by (own := [("low", 5)]) (by show blkC ["self", "n", "pairs", "less", "states", "low", "high", "state", "cover"] (defScope s_oi) _ _ = true; decide +kernel)) (fun _ _ _ _ _ => (pg_name (i := 5) sc_oi.nd rfl (Or.inr rfl))) (fun _ _ _ _ _ => pts_nil) (fun _ _ _ _ _ => (pe_callTy (ktuple_of K) (by rfl) T.n_tuple (by decide +kernel) (pa_cons (pe_lc (own := [("high", 6)]) (by rfl) sc_oi.nd (kpi_list K (pv 4)) (blkOk_by (own := [("high", 6)]) (by show blkC ["self", "n", "pairs", "less", "states", "low", "high", "state", "cover"] (relS _ ((defScope s_oi))) _ _ = true; decide +kernel)) (fun _ _ _ _ _ => (pg_name (i := 6) sc_oi.nd rfl (Or.inl rfl))) (fun _ _ _ _ _ => (pts_one (kt_truth K (pe_ix (kix_list K) (pe_ix (kix_list K) (pv 3) (pv 5) (fun _ _ => rfl)) (pv 6) (fun _ _ => rfl)) (by intro _; rfl)))) (fun _ _ _ _ _ => (pv 6))) pa_nil)))) pa_nil)) rfl)
      (pss_cons (ps_fld (pv 0) (pe_callTy (ktuple_of K) (by rfl) T.n_tuple (by decide +kernel) (pa_cons (pe_lc (own := [("high", 6)]) (by rfl) sc_oi.nd (kpi_list K (pv 4)) (blkOk_by (own := [("high", 6)]) (by show blkC ["self", "n", "pairs", "less", "states", "low", "high", "state", "cover"] (defScope s_oi) _ _ = true; decide +kernel)) (fun _ _ _ _ _ => (pg_name (i := 6) sc_oi.nd rfl (Or.inr rfl))) (fun _ _ _ _ _ => pts_nil) (fun _ _ _ _ _ => (pe_callTy (ktuple_of K) (by rfl) T.n_tuple (by decide +kernel) (pa_cons (pe_lc (own := [("low", 5)]) (by rfl) sc_oi.nd (kpi_list K (pv 4)) (blkOk_by (own := [("low", 5)]) (by show blkC ["self", "n", "pairs", "less", "states", "low", "high", "state", "cover"] (relS _ ((defScope s_oi))) _ _ = true; decide +kernel)) (fun _ _ _ _ _ => (pg_name (i := 5) sc_oi.nd rfl (Or.inl rfl))) (fun _ _ _ _ _ => (pts_one (kt_truth K (pe_ix (kix_list K) (pe_ix (kix_list K) (pv 3) (pv 5) (fun _ _ => rfl)) (pv 6) (fun _ _ => rfl)) (by intro _; rfl)))) (fun _ _ _ _ _ => (pv 5))) pa_nil)))) pa_nil)) rfl)
      (pss_cons (ps_fld (pv 0) (pe_callTy (ktuple_of K) (by rfl) T.n_tuple (by decide +kernel) (pa_cons (pe_lc (own := [("low", 5)]) (by rfl) sc_oi.nd (kpi_list K (pv 4)) (blkOk_by (own := [("low", 5)]) (by show blkC ["self", "n", "pairs", "less", "states", "low", "high", "state", "cover"] (defScope s_oi) _ _ = true; decide +kernel)) (fun _ _ _ _ _ => (pg_name (i := 5) sc_oi.nd rfl (Or.inr rfl))) (fun _ _ _ _ _ => pts_nil) (fun _ _ _ _ _ => (pe_callTy (ktuple_of K) (by rfl) T.n_tuple (by decide +kernel) (pa_cons (pe_lc (own := [("high", 6)]) (by rfl) sc_oi.nd (kpi_list K (pv 4)) (blkOk_by (own := [("high", 6)]) (by show blkC ["self", "n", "pairs", "less", "states", "low", "high", "state", "cover"] (relS _ ((defScope s_oi))) _ _ = true; decide +kernel)) (fun _ _ _ _ _ => (pg_name (i := 6) sc_oi.nd rfl (Or.inl rfl))) (fun _ _ _ _ _ => (pts_one (kt_truth K (pe_cal c_is_cover (hr.mono (by decide)) (by rfl) (pa_cons (pv 3) (pa_cons (pv 5) (pa_cons (pv 6) pa_nil)))) (by intro _; rfl)))) (fun _ _ _ _ _ => (pv 6))) pa_nil)))) pa_nil)) rfl)
      (pss_cons (ps_fld (pv 0) (pe_callTy (ktuple_of K) (by rfl) T.n_tuple (by decide +kernel) (pa_cons (pe_lc (own := [("state", 7)]) (by rfl) sc_oi.nd (kpi_list K (pv 4)) (blkOk_by (own := [("state", 7)]) (by show blkC ["self", "n", "pairs", "less", "states", "low", "high", "state", "cover"] (defScope s_oi) _ _ = true; decide +kernel)) (fun _ _ _ _ _ => (pg_name (i := 7) sc_oi.nd rfl (Or.inl rfl))) (fun _ _ _ _ _ => (pts_one (pt_not (kt_truth K (pe_ix (kix_tup K) (kfld K (pv 0) rfl) (pv 7) (fun _ _ => rfl)) (by intro _; rfl))))) (fun _ _ _ _ _ => (pv 7))) pa_nil)) rfl)
      (pss_one (ps_fld (pv 0) (pe_callTy (ktuple_of K) (by rfl) T.n_tuple (by decide +kernel) (pa_cons (pe_lc2 (own := [("state", 7), ("cover", 8)]) (vs1 := [8]) (by rfl) sc_oi.nd (kpi_list K (pv 4)) (blkOk_by (own := [("state", 7), ("cover", 8)]) (by show blkC ["self", "n", "pairs", "less", "states", "low", "high", "state", "cover"] (defScope s_oi) _ _ = true; decide +kernel)) (by decide) (fun _ _ _ _ _ => (pg_name (i := 7) sc_oi.nd rfl (Or.inl rfl))) (fun _ _ _ _ _ => pts_nil) (fun _ _ _ _ _ => (kpi_tup K (pe_ix (kix_tup K) (kfld K (pv 0) rfl) (pv 7) (fun _ _ => rfl)))) (fun _ _ _ _ _ => (pg_name (i := 8) sc_oi.nd rfl (Or.inl rfl))) (fun _ _ _ _ _ => pts_nil) (fun _ _ _ _ _ => (pe_tup (pa_cons (pv 7) (pa_cons (pv 8) pa_nil))))) pa_nil)) rfl)))))))))))
      , ?_⟩
    walk_at "r"
    refine ⟨_, _, n, p, rfl, hn, hp, fun hF H1 s1 => ?_, fun what at_ hF => kbad what at_ (by unfold ordFault; rw [hF]; rfl)⟩
    obtain ⟨m, rfl, h1, h24, ds, hs, hcp⟩ := parts_ok hF
    cases hn
    have hsq := isSeq_of hs
    have hp' : Dp K H1 y p := by
      cases hp with
      | dp h => exact Dp.same s1 _ _ h
      | dk h => cases hsq
    obtain ⟨a, ys, ds', rfl, hq, ha, hs'⟩ := seq_dp hp' hsq
    rw [hs] at hs'
    cases hs'
    have ec : clM m p = closeM m (initM (ds.map prOf)) m := by
      unfold clM prsOf
      rw [hs]
    have eF : ordFault (.int (m : Int)) p = closedFault m (clM m p) := by
      unfold ordFault
      rw [hF]
      rfl
    rw [eF] at kok kbad
    change closedFault m (clM m p) = none → ∀ H', Keep o H H' → OrdF H' o C dx m (clM m p) (covB m (clM m p)) → Q .non H' at kok
    walk_at "r"
    refine ⟨m, a, ys, ds, rfl, h1, h24, hq, ha, hcp, fun D rs H2 nm0 => ?_⟩
    have nm : NewM H1 H2 D m (clM m p) rs := by
      rw [ec]
      exact nm0
    clear nm0 ec eF
    generalize clM m p = M at kok kbad nm
    walk_at "r"
    refine ⟨D, m, M, rs, rfl, h1, h24, nm.mat, fun hC => ?_, fun what at_ hC d H' s2 e => kbad what at_ hC d H' ((s1.trans nm.same).trans s2) e⟩
    walk_at "r"
    refine ⟨RgOk.of_le (by omega) (by omega) (by omega) (by omega), fun st hst => ?_⟩
    have s3 : Same H (upd H2 st (.lst (rgV 0 (m : Int)))) := (s1.trans nm.same).trans (same_new hst)
    have eS : upd H2 st (.lst (rgV 0 (m : Int))) st = some (.lst (natsV (List.range m))) := by
      rw [upd_same, rg_nats]
    have mS := nm.mat.same (same_new (o := .lst (rgV 0 (m : Int))) hst)
    have ho3 := s3 _ _ ho
    generalize upd H2 st (.lst (rgV 0 (m : Int))) = H3 at s3 eS mS ho3 ⊢
    walk_at "r"
    refine ⟨o, C, dx, [], rfl, ho3, OC.cl, OC.a1, (by show 0 < 1000; decide), ?_⟩
    have k4 : Keep o H3 (upd H3 o (.ins C dx (putF "n" (.int (m : Int)) []))) := Keep.upd
    have h4 : upd H3 o (.ins C dx (putF "n" (.int (m : Int)) [])) o = some (.ins C dx (putF "n" (.int (m : Int)) [])) := upd_same
    have l4 : (putF "n" (.int (m : Int)) []).length ≤ 1 := putF_len _ _ _
    have st4 := keep_lst k4 ho3 eS
    have m4 := mS.keep k4 ho3
    generalize hf4 : putF "n" (.int (m : Int)) [] = f4 at h4 l4 k4 st4 m4 ⊢
    generalize upd H3 o (.ins C dx f4) = H4 at h4 k4 st4 m4 ⊢
    refine te_tups (n := m) (st := st) (p := M) (by omega) (SqL.of st4) rfl (fun y => rfl) (fun x y => rfl) (fun x => rfl) (fun x => rfl) (fun x y H' Qb hx hy s q => ?_) (fun pa ra Ha sa na la ea ta => ?_)
    · obtain ⟨r, hr1, har, her⟩ := m4.get hx
      exact ⟨_, rfl, _, rfl, _, _, _, _, rfl, rfl, SqL.of (s _ _ m4.top), har, _, rfl, _, _, _, _, rfl, rfl, SqL.of (s _ _ her), rowV_at hy, _, rfl, q H' (Same.refl _)⟩
    refine ⟨_, rfl, o, C, dx, f4, rfl, sa _ _ h4, OC.cl, OC.a2, (by show _ < 1000; omega), ?_⟩
    have oa := sa _ _ h4
    have k5 : Keep o H3 (upd Ha o (.ins C dx (putF "_above" (.ref pa) f4))) := (k4.trans (Keep.of_same sa)).trans Keep.upd
    have u5 : Keep o Ha (upd Ha o (.ins C dx (putF "_above" (.ref pa) f4))) := Keep.upd
    have h5 : upd Ha o (.ins C dx (putF "_above" (.ref pa) f4)) o = some (.ins C dx (putF "_above" (.ref pa) f4)) := upd_same
    have l5 : (putF "_above" (.ref pa) f4).length ≤ 2 := Nat.le_trans (putF_len _ _ _) (by omega)
    have st5 := keep_lst u5 oa (sa _ _ st4)
    have m5 := (m4.same sa).keep u5 oa
    have ea5 := keep_tup u5 oa ea
    have ta5 := ta.keep u5 oa
    clear k4 h4 st4 m4 ea ta
    generalize hf5 : putF "_above" (.ref pa) f4 = f5 at h5 l5 k5 u5 st5 m5 ea5 ta5 ⊢
    generalize upd Ha o (.ins C dx f5) = H5 at h5 k5 u5 st5 m5 ea5 ta5 ⊢
    refine te_tups (n := m) (st := st) (p := fun y x => M x y) (by omega) (SqL.of st5) rfl (fun y => rfl) (fun x y => rfl) (fun x => rfl) (fun x => rfl) (fun x y H' Qb hx hy s q => ?_) (fun pb rb Hb sb nb lb eb tb => ?_)
    · obtain ⟨r, hr1, har, her⟩ := m5.get hy
      exact ⟨_, rfl, _, rfl, _, _, _, _, rfl, rfl, SqL.of (s _ _ m5.top), har, _, rfl, _, _, _, _, rfl, rfl, SqL.of (s _ _ her), rowV_at hx, _, rfl, q H' (Same.refl _)⟩
    refine ⟨_, rfl, o, C, dx, f5, rfl, sb _ _ h5, OC.cl, OC.a3, (by show _ < 1000; omega), ?_⟩
    have ob := sb _ _ h5
    have k6 : Keep o H3 (upd Hb o (.ins C dx (putF "_below" (.ref pb) f5))) := (k5.trans (Keep.of_same sb)).trans Keep.upd
    have u6 : Keep o Hb (upd Hb o (.ins C dx (putF "_below" (.ref pb) f5))) := Keep.upd
    have h6 : upd Hb o (.ins C dx (putF "_below" (.ref pb) f5)) o = some (.ins C dx (putF "_below" (.ref pb) f5)) := upd_same
    have l6 : (putF "_below" (.ref pb) f5).length ≤ 3 := Nat.le_trans (putF_len _ _ _) (by omega)
    have st6 := keep_lst u6 ob (sb _ _ st5)
    have m6 := (m5.same sb).keep u6 ob
    have ea6 := keep_tup u6 ob (sb _ _ ea5)
    have ta6 := (ta5.same sb).keep u6 ob
    have eb6 := keep_tup u6 ob eb
    have tb6 := tb.keep u6 ob
    clear k5 h5 st5 m5 ea5 ta5 eb tb u5
    generalize hf6 : putF "_below" (.ref pb) f5 = f6 at h6 l6 k6 u6 st6 m6 ea6 ta6 eb6 tb6 ⊢
    generalize upd Hb o (.ins C dx f6) = H6 at h6 k6 u6 st6 m6 ea6 ta6 eb6 tb6 ⊢
    refine te_tups (n := m) (st := st) (p := covB m M) (by omega) (SqL.of st6) rfl (fun y => rfl) (fun x y => rfl) (fun x => rfl) (fun x => rfl) (fun x y H' Qb hx hy s q => ?_) (fun pc rc Hc sc nc lc ec tc => ?_)
    · exact ⟨_, rfl, _, rfl, _, rfl, D, m, M, rs, x, y, rfl, hx, hy, h24, m6.same s, fun H2 s2 => ⟨_, rfl, q H2 s2⟩⟩
    refine ⟨_, rfl, o, C, dx, f6, rfl, sc _ _ h6, OC.cl, OC.a4, (by show _ < 1000; omega), ?_⟩
    have oc := sc _ _ h6
    have k7 : Keep o H3 (upd Hc o (.ins C dx (putF "_covers" (.ref pc) f6))) := (k6.trans (Keep.of_same sc)).trans Keep.upd
    have u7 : Keep o Hc (upd Hc o (.ins C dx (putF "_covers" (.ref pc) f6))) := Keep.upd
    have h7 : upd Hc o (.ins C dx (putF "_covers" (.ref pc) f6)) o = some (.ins C dx (putF "_covers" (.ref pc) f6)) := upd_same
    have l7 : (putF "_covers" (.ref pc) f6).length ≤ 4 := Nat.le_trans (putF_len _ _ _) (by omega)
    have st7 := keep_lst u7 oc (sc _ _ st6)
    have ea7 := keep_tup u7 oc (sc _ _ ea6)
    have ta7 := (ta6.same sc).keep u7 oc
    have eb7 := keep_tup u7 oc (sc _ _ eb6)
    have tb7 := (tb6.same sc).keep u7 oc
    have ec7 := keep_tup u7 oc ec
    have tc7 := tc.keep u7 oc
    have lk7 : (putF "_covers" (.ref pc) f6).lookup ("_covers" : Str) = some (.ref pc) := lkY
    clear k6 h6 st6 m6 ea6 ta6 eb6 tb6 ec tc u6
    generalize hf7 : putF "_covers" (.ref pc) f6 = f7 at h7 l7 k7 u7 st7 ea7 ta7 eb7 tb7 ec7 tc7 lk7 ⊢
    generalize upd Hc o (.ins C dx f7) = H7 at h7 k7 u7 st7 ea7 ta7 eb7 tb7 ec7 tc7 ⊢
    have covAt : ∀ {x : Nat}, x < m → ∃ r, atI (rc.map V.ref) (x : Int) = some (.ref r) ∧ H7 r = some (.tup (natsV (fl m (covB m M x)))) := fun {x} hx => by
      have hl : x < rc.length := by omega
      have e : rc[x]? = some rc[x] := by simp [hl]
      exact ⟨rc[x], atI_nat (by rw [List.getElem?_map, e]; rfl), tc7 x _ e⟩
    refine te_filt (n := m) (st := st) (p := fun s => (fl m (covB m M s)).isEmpty) (by omega) (SqL.of st7) rfl (fun y => rfl) rfl (fun x H' Qb hx s q => ?_) (fun pe He se ne ee => ?_)
    · obtain ⟨r, har, her⟩ := covAt hx
      refine ⟨_, rfl, o, C, dx, f7, _, rfl, s _ _ h7, OC.cl, OC.a4, lk7, _, rfl, _, _, _, _, rfl, rfl, SqT.of (s _ _ ec7), har, !(natsV (fl m (covB m M x))).isEmpty, .inr (.inl ⟨_, SqT.of (s _ _ her), rfl⟩), ?_⟩
      have e1 : (!(!(natsV (fl m (covB m M x))).isEmpty)) = (fl m (covB m M x)).isEmpty := by
        rw [Bool.not_not]
        cases fl m (covB m M x) <;> rfl
      show Qb (!(!(natsV (fl m (covB m M x))).isEmpty)) H'
      rw [e1]
      exact q H' (Same.refl _)
    refine ⟨_, rfl, o, C, dx, f7, rfl, se _ _ h7, OC.cl, OC.a5, (by show _ < 1000; omega), ?_⟩
    have oe := se _ _ h7
    have k8 : Keep o H3 (upd He o (.ins C dx (putF "_ends" (.ref pe) f7))) := (k7.trans (Keep.of_same se)).trans Keep.upd
    have u8 : Keep o He (upd He o (.ins C dx (putF "_ends" (.ref pe) f7))) := Keep.upd
    have h8 : upd He o (.ins C dx (putF "_ends" (.ref pe) f7)) o = some (.ins C dx (putF "_ends" (.ref pe) f7)) := upd_same
    have l8 : (putF "_ends" (.ref pe) f7).length ≤ 5 := Nat.le_trans (putF_len _ _ _) (by omega)
    have st8 := keep_lst u8 oe (se _ _ st7)
    have ea8 := keep_tup u8 oe (se _ _ ea7)
    have ta8 := (ta7.same se).keep u8 oe
    have eb8 := keep_tup u8 oe (se _ _ eb7)
    have tb8 := (tb7.same se).keep u8 oe
    have ec8 := keep_tup u8 oe (se _ _ ec7)
    have tc8 := (tc7.same se).keep u8 oe
    have ee8 := keep_tup u8 oe ee
    have lk8 : (putF "_ends" (.ref pe) f7).lookup ("_covers" : Str) = some (.ref pc) := lkN (by decide +kernel) lk7
    clear k7 h7 st7 ea7 ta7 eb7 tb7 ec7 tc7 ee u7 covAt
    generalize hf8 : putF "_ends" (.ref pe) f7 = f8 at h8 l8 k8 u8 st8 ea8 ta8 eb8 tb8 ec8 tc8 ee8 lk8 ⊢
    generalize upd He o (.ins C dx f8) = H8 at h8 k8 u8 st8 ea8 ta8 eb8 tb8 ec8 tc8 ee8 ⊢
    have covAt : ∀ {x : Nat}, x < m → ∃ r, atI (rc.map V.ref) (x : Int) = some (.ref r) ∧ H8 r = some (.tup (natsV (fl m (covB m M x)))) := fun {x} hx => by
      have hl : x < rc.length := by omega
      have e : rc[x]? = some rc[x] := by simp [hl]
      exact ⟨rc[x], atI_nat (by rw [List.getElem?_map, e]; rfl), tc8 x _ e⟩
    refine ⟨_, rfl, st, rfl, ⟨_, SqL.of st8⟩, fun Dd hDd => lc_edges (n := m) (c := fun x => fl m (covB m M x)) h24 (fun x => fl_le) (SqL.of st8) hDd (fun y => rfl) (fun x y => rfl) (fun x H' R hx s q => ?_) (fun x y H' Q' hx s q => ?_) (fun rd Hd sd ed pd => ?_)⟩
    · obtain ⟨r, har, her⟩ := covAt hx
      exact ⟨_, rfl, o, C, dx, f8, _, rfl, s _ _ h8, OC.cl, OC.a4, lk8, _, rfl, _, _, _, _, rfl, rfl, SqT.of (s _ _ ec8), har, r, rfl, ⟨_, SqT.of (s _ _ her)⟩, q r (SqT.of her)⟩
    · exact ⟨_, rfl, _, rfl, (by show 2 ≤ sizeLine; decide), fun r hr => q r hr⟩
    refine ⟨Dd, _, rfl, .inl ⟨SqL.of ed, fun pz hz => ?_⟩⟩
    have sz := sd.trans (same_new (o := .tup (rd.map V.ref)) hz)
    have od := sz _ _ h8
    refine ⟨_, rfl, o, C, dx, f8, rfl, od, OC.cl, OC.a6, (by show _ < 1000; omega), ?_⟩
    have u9 : Keep o (upd Hd pz (.tup (rd.map V.ref))) (upd (upd Hd pz (.tup (rd.map V.ref))) o (.ins C dx (putF "edges" (.ref pz) f8))) := Keep.upd
    have k9 : Keep o H (upd (upd Hd pz (.tup (rd.map V.ref))) o (.ins C dx (putF "edges" (.ref pz) f8))) := (((Keep.of_same s3).trans k8).trans (Keep.of_same sz)).trans Keep.upd
    refine kok hC _ k9 ⟨pa, pb, pc, pe, pz, ra, rb, rc, rd, ?_, ⟨keep_tup u9 od (sz _ _ ea8), la, (ta8.same sz).keep u9 od⟩, ⟨keep_tup u9 od (sz _ _ eb8), lb, (tb8.same sz).keep u9 od⟩, ⟨keep_tup u9 od (sz _ _ ec8), lc, (tc8.same sz).keep u9 od⟩, keep_tup u9 od (sz _ _ ee8), keep_tup u9 od upd_same, ?_⟩
    · rw [upd_same, ← hf8, ← hf7, ← hf6, ← hf5, ← hf4]
      rfl
    · exact (pd.same (same_new hz)).keep u9 od
end
end Z

set_option Elab.async false
set_option linter.all false
set_option maxRecDepth 100000
namespace Z
open PySem L2
local macro_rules | `(tactic| walk_at "side") => `(tactic| first | omega | (unfold CMul; omega) | (unfold CDiv; omega) | (unfold CDivN; omega) | (unfold CPow; omega) | decide)
local macro_rules | `(tactic| walk_at "lst") => `(tactic| first | exact SqL.of (by assumption) | exact SqL.of upd_same | assumption | exact upd_same)
local macro_rules | `(tactic| walk_at "r1") => `(tactic| first | refine ⟨_, rfl, ?_⟩ | refine ⟨_, _, rfl, rfl, ?_⟩ | refine Or.inl ⟨_, rfl, ?_⟩ | refine And.intro rfl ?_ | refine ⟨_, _, _, _, rfl, rfl, by walk_at "lst", rfl, ?_⟩ | refine ⟨_, _, rfl, Or.inl (by walk_at "lst"), ?_⟩ | refine And.intro (by walk_at "side") ?_)
local macro_rules | `(tactic| walk_at "r") => `(tactic| repeat walk_at "r1")
theorem Keep.mut {h : Addr} {H H' : Hp} {p : Addr} {o : HO} (k : Keep h H H') (n : H p = none) : Keep h H (L2.upd H' p o) := fun b u e nb => by
  rw [upd_ne (ne_of_none e n)]
  exact k b u e nb
theorem free_k {h b : Addr} {H H' : Hp} (k : Keep h H H') (n : H' b = none) (ne : b ≠ h) : H b = none := by
  cases e : H b with
  | none => rfl
  | some o =>
    rw [k b o e ne] at n
    cases n
theorem perm_erase {α : Type} : ∀ {l : List α} {d : Nat} (h : d < l.length), (l[d] :: l.eraseIdx d).Perm l
  | x :: l, 0, _ => .refl _
  | x :: l, d + 1, h => by
    have ih := perm_erase (l := l) (d := d) (by simpa using h)
    exact (List.Perm.swap _ _ _).trans (ih.cons x)
abbrev s_seqd : Stmt := top 21
abbrev s_shuf : Stmt := top 22
abbrev s_hand : Stmt := top 27
def spSeqd (K : PySem.W.Frag) : Sp := fun vs H Q _ => ∃ (h ha r : Addr) (xs : List V), vs = [.ref h, .ref r] ∧ Hnd H h ha ∧ (SqL K H r xs ∨ SqT K H r xs) ∧ (∀ H', Keep h H H' → SqL K H' r xs ∨ SqT K H' r xs) ∧
  ∀ p H', Keep h H H' → Hnd H' h ha → ((H p = none ∧ H' p = some (.lst xs)) ∨ H' p = some (.tup xs) ∨ (p = r ∧ SqT K H' p xs)) → Q (.ref p) H'
def spShuf (K : PySem.W.Frag) : Sp := fun vs H Q _ => ∃ (h ha r : Addr) (xs : List V), vs = [.ref h, .ref r] ∧ Hnd H h ha ∧ (SqL K H r xs ∨ SqT K H r xs) ∧ (∀ H', Keep h H H' → SqL K H' r xs ∨ SqT K H' r xs) ∧ xs.length ≤ 1000 ∧
  ∀ p ws H', ws.Perm xs → Keep h H H' → Hnd H' h ha → H p = none → H' p = some (.lst ws) → Q (.ref p) H'
section
variable {P : Program} {w : World} {K : PySem.W.Frag} {mg : Str → Option Value} {base : Heap}
theorem sc_shuf : FnScope ["hand", "row", "left", "told", "turn"] ["hand", "row"] (defScope s_shuf) := ⟨rfl, rfl, rfl, by decide +kernel, rfl, by decide +kernel, by decide +kernel⟩
theorem ok_shuf {f : Addr} {fd : FuncData} (F : Fun K "_law_shuffled" "_law_shuffled" s_shuf f fd) (T : Bl mg) (c_law_draw : Cal P w K mg base CX0 "_law_draw" 2 spDraw) : FnOk P w K mg base CX0 3 f fd ["hand", "row"] (spShuf K) := by
  refine F.ok sc_shuf (fun vs H Q E h => ?_) (fun cdv A outer s H vs Q E hr h => ?_)
  · obtain ⟨h, ha, r, xs, rfl, _⟩ := h
    rfl
  · obtain ⟨h, ha, r, xs, rfl, hn, hq, hqk, hl, k⟩ := h
    refine ⟨_,
      (pss_cons (ps_set (i := 2) sc_shuf.nd rfl (Or.inl rfl) (pe_callTy (klist_of K) (by rfl) T.n_list (by decide +kernel) (pa_cons (pv 1) pa_nil)))
      (pss_cons (ps_set (i := 3) sc_shuf.nd rfl (Or.inl rfl) (pe_lst pa_nil))
      (pss_cons (ps_for PassesOwn.never rfl (pi_range1 (by rfl) T.n_range (pa_cons (pe_callB (klen K) (by rfl) T.n_len PySem.boot_len (pa_cons (pv 1) pa_nil)) pa_nil)) (pg_name (i := 4) sc_shuf.nd rfl (Or.inl rfl))
        (pss_one (ps_expr (pe_bm PySem.F.plainAttrs_list PySem.F.slot_list_append PySem.F.type_list_append mt_append (pv 3) (pa_cons (pe_bm PySem.F.plainAttrs_list PySem.F.slot_list_pop PySem.F.type_list_pop mt_popAt (pv 2) (pa_cons (pe_cal c_law_draw (hr.mono (by decide)) (by rfl) (pa_cons (pv 0) (pa_cons (pe_callB (klen K) (by rfl) T.n_len PySem.boot_len (pa_cons (pv 2) pa_nil)) pa_nil))) pa_nil)) pa_nil)))))
      (pss_one (ps_ret (pv 3))))))
      , ?_⟩
    walk_at "r"
    refine ⟨_, _, rfl, hq, fun l hl0 => ?_⟩
    refine ⟨by show 0 ≤ sizeLine; decide, fun t ht0 => ?_⟩
    have nlh : l ≠ h := hn.ne hl0
    have hlt0 : H t = none := by
      cases e : H t with
      | none => rfl
      | some o =>
        rw [upd_ne (ne_of_none e hl0), e] at ht0
        cases ht0
    have nth : t ≠ h := hn.ne hlt0
    have ntl : t ≠ l := fun z => by
      rw [z, upd_same] at ht0
      cases ht0
    have k2 : Keep h H (upd (upd H l (.lst xs)) t (.lst [])) := ((Keep.refl h H).mut hl0).mut hlt0
    have n2 : Hnd (upd (upd H l (.lst xs)) t (.lst [])) h ha := (hn.new hl0).new ht0
    walk_at "r"
    refine ⟨_, _, rfl, hqk _ k2, ?_⟩
    refine ⟨_, rfl, by omega, by omega, ?_⟩
    refine for_range (lo := 0) (n := xs.length) (fun i σ H' => ∃ (v : Option V) (ls ts : List V), σ = [some (.ref h), some (.ref r), some (.ref l), some (.ref t), v] ∧ Keep h H H' ∧ Hnd H' h ha ∧ H' l = some (.lst ls) ∧ H' t = some (.lst ts) ∧ (ts ++ ls).Perm xs ∧ ts.length = i)
      ⟨none, xs, [], rfl, k2, n2, by rw [upd_ne ntl.symm]; exact upd_same, upd_same, by simp, rfl⟩ ?_ ?_
    · rintro i σ H' hi ⟨v, ls, ts, rfl, k3, n3, e1, e2, pm, el⟩
      have hlen : ts.length + ls.length = xs.length := by
        have := pm.length_eq
        simpa using this
      refine ⟨_, rfl, .inl ⟨rfl, _, SqL.of e2⟩, ?_⟩
      refine ⟨_, rfl, .inl ⟨rfl, _, SqL.of e1⟩, ?_⟩
      refine ⟨_, rfl, _, rfl, _, _, rfl, .inl (SqL.of e1), ?_⟩
      refine ⟨h, ha, (ls.length : Int), rfl, n3, by omega, by omega, fun d H2 d0 d1 k4 n4 _ => ?_⟩
      have e1' := k4 _ _ e1 nlh
      have e2' := k4 _ _ e2 nth
      have hd : d.toNat < ls.length := by omega
      have hix : seqIndex? d ls.length = some d.toNat := (ixN_seq (by
        have e : ((d.toNat : Nat) : Int) = d := by omega
        rw [← e]
        exact ixN_nat hd)).1
      refine ⟨l, ls, d, d.toNat, ls[d.toNat], rfl, rfl, e1', by omega, by omega, hix, by simp [hd], ?_⟩
      refine ⟨t, ts, ls[d.toNat], rfl, rfl, by rw [upd_ne ntl]; exact e2', small1000 (by omega), ?_⟩
      refine ⟨_, ls.eraseIdx d.toNat, ts ++ [ls[d.toNat]], rfl, ?_, ?_, ?_, upd_same, ?_, ?_⟩
      · exact ((k3.trans k4).mut hl0).mut hlt0
      · exact (n4.off nlh (hn.nea hl0)).off nth (hn.nea hlt0)
      · rw [upd_ne ntl.symm]
        exact upd_same
      · refine List.Perm.trans ?_ pm
        rw [List.append_assoc]
        refine List.Perm.append_left ts ?_
        exact perm_erase hd
      · rw [List.length_append, el]
        rfl
    · rintro σ H' ⟨v, ls, ts, rfl, k3, n3, e1, e2, pm, el⟩
      have hlen : ts.length + ls.length = xs.length := by
        have := pm.length_eq
        simpa using this
      have ez : ls = [] := List.length_eq_zero_iff.mp (by omega)
      subst ez
      rw [List.append_nil] at pm
      walk_at "r"
      exact k t ts H' pm k3 n3 hlt0 e2
theorem sc_seqd : FnScope ["hand", "row"] ["hand", "row"] (defScope s_seqd) := ⟨rfl, rfl, rfl, by decide +kernel, rfl, by decide +kernel, by decide +kernel⟩
theorem ok_seqd {f : Addr} {fd : FuncData} (F : Fun K "_law_seq" "_law_seq" s_seqd f fd) (T : Bl mg) (c_law_draw : Cal P w K mg base CX0 "_law_draw" 2 spDraw) : FnOk P w K mg base CX0 3 f fd ["hand", "row"] (spSeqd K) := by
  refine F.ok sc_seqd (fun vs H Q E h => ?_) (fun cdv A outer s H vs Q E hr h => ?_)
  · obtain ⟨h, ha, r, xs, rfl, _⟩ := h
    rfl
  · obtain ⟨h, ha, r, xs, rfl, hn, hq, hqk, k⟩ := h
    refine ⟨_,
      (pss_one (ps_ret (pe_ifExp (pt_cmpR op_eq (pe_cal c_law_draw (hr.mono (by decide)) (by rfl) (pa_cons (pv 0) (pa_cons pe_int pa_nil))) pe_int (nomark _)) (pe_callTy (klist_of K) (by rfl) T.n_list (by decide +kernel) (pa_cons (pv 1) pa_nil)) (pe_callTy (ktuple_of K) (by rfl) T.n_tuple (by decide +kernel) (pa_cons (pv 1) pa_nil)))))
      , ?_⟩
    walk_at "r"
    refine ⟨h, ha, 2, rfl, hn, by omega, by omega, fun d H2 d0 d1 k2 n2 _ => ?_⟩
    walk_at "r"
    refine iteB (fun c => ?_) (fun c => ?_)
    · walk_at "r"
      refine ⟨_, _, rfl, hqk _ k2, fun p hp => ?_⟩
      exact k p _ (k2.trans (Keep.new hp)) (n2.new hp) (.inl ⟨free_k k2 hp (n2.ne hp), upd_same⟩)
    · walk_at "r"
      rcases hqk _ k2 with hl | ht
      · exact ⟨_, _, rfl, .inl ⟨hl, fun p hp => k p _ (k2.trans (Keep.new hp)) (n2.new hp) (.inr (.inl upd_same))⟩⟩
      · exact ⟨_, _, rfl, .inr ⟨ht, k r _ k2 n2 (.inr (.inr ⟨rfl, ht⟩))⟩⟩
/-! ### the hand -/
def spHand (K : PySem.W.Frag) : Sp := fun vs H Q _ => ∃ (a : Addr) (ns : List Int), vs = [.ref a] ∧ SqL K H a (ns.map V.int) ∧ ns.length ≤ 63 ∧ ∀ h ha H', Same H H' → Hnd H' h ha → H h = none → H ha = none → Q (.ref h) H'
theorem sc_hand : FnScope ["script", "total", "k", "cell"] ["script"] (defScope s_hand) := ⟨rfl, rfl, rfl, by decide +kernel, rfl, by decide +kernel, by decide +kernel⟩
theorem ok_hand {f : Addr} {fd : FuncData} (F : Fun K "_law_hand" "_law_hand" s_hand f fd) (T : Bl mg) : FnOk P w K mg base CX0 1 f fd ["script"] (spHand K) := by
  refine F.ok sc_hand (fun vs H Q E h => ?_) (fun cdv A outer s H vs Q E hr h => ?_)
  · obtain ⟨a, ns, rfl, _⟩ := h
    rfl
  · obtain ⟨a, ns, rfl, hs, hl, k⟩ := h
    refine ⟨_,
      (pss_cons (ps_set (i := 1) sc_hand.nd rfl (Or.inl rfl) pe_int)
      (pss_cons (ps_for PassesOwn.never rfl (pi_enum (by rfl) T.n_enumerate (pa_cons (pv 0) pa_nil)) (pg_tup (by rfl) (pgs_cons (pg_name (i := 2) sc_hand.nd rfl (Or.inl rfl)) (pgs_cons (pg_name (i := 3) sc_hand.nd rfl (Or.inl rfl)) pgs_nil)))
        (pss_one (ps_set (i := 1) sc_hand.nd rfl (Or.inl rfl) (pe_op op_mod (pe_callTy call_int1 (by rfl) T.n_int (by decide +kernel) (pa_cons (pe_op op_add (pe_op op_mul (pv 1) pe_int) (pe_op op_mul (pe_callTy call_int1 (by rfl) T.n_int (by decide +kernel) (pa_cons (pv 3) pa_nil)) (pe_op op_add (pv 2) pe_int))) pa_nil)) pe_int))))
      (pss_one (ps_ret (pe_lst (pa_cons (pe_lc (own := [("cell", 3)]) (by rfl) sc_hand.nd (kpi_list K (pv 0)) (blkOk_by (own := [("cell", 3)]) (by show blkC ["script", "total", "k", "cell"] (defScope s_hand) _ _ = true; decide +kernel)) (fun _ _ _ _ _ => (pg_name (i := 3) sc_hand.nd rfl (Or.inl rfl))) (fun _ _ _ _ _ => pts_nil) (fun _ _ _ _ _ => (pe_callB call_abs (by rfl) T.n_abs (by decide +kernel) (pa_cons (pe_callTy call_int1 (by rfl) T.n_int (by decide +kernel) (pa_cons (pv 3) pa_nil)) pa_nil)))) (pa_cons pe_int (pa_cons pe_int (pa_cons (pv 1) pa_nil)))))))))
      , ?_⟩
    have getN : ∀ {i : Nat} {x : V}, (ns.map V.int)[i]? = some x → ∃ z, ns[i]? = some z ∧ x = .int z := fun {i x} e => by
      rw [List.getElem?_map] at e
      cases q : ns[i]? with
      | none =>
        rw [q] at e
        cases e
      | some z =>
        rw [q] at e
        exact ⟨z, rfl, (Option.some.inj e).symm⟩
    walk_at "r"
    refine ⟨a, _, rfl, hs, for_it (walk_enum (K := K) (a := a) (xs := ns.map V.int)) (fun i σ H' => ∃ (t : Int) (v w : Option V), σ = [some (.ref a), some (.int t), v, w] ∧ Same H H' ∧ 0 ≤ t ∧ t < 2147483549)
      ⟨0, none, none, rfl, Same.refl _, by omega, by omega⟩ (fun i σ H' _ q => by
        obtain ⟨t, v, w, _, s1, _⟩ := q
        exact s1.seq hs) ?_ ?_⟩
    · rintro i v σ H1 H2 hi ⟨t, v1, w1, rfl, s1, t0, t1⟩ y
      obtain ⟨T', x, y, rfl, hT, rfl, ex, ey⟩ := y
      cases ex
      obtain ⟨z, hz, rfl⟩ := getN ey
      have hi63 : i < 63 := by
        have := (List.getElem?_eq_some_iff.mp hz).1
        omega
      refine ⟨T', _, rfl, SqT.of upd_same, rfl, _, _, rfl, _, _, rfl, rfl, ?_⟩
      walk_at "r"
      exact ⟨_, _, _, rfl, s1.trans (same_new hT), Int.emod_nonneg _ (by omega), Int.emod_lt_of_pos _ (by omega)⟩
    · rintro σ H' ⟨t, v, w, rfl, s1, t0, t1⟩
      walk_at "r"
      refine ⟨⟨_, s1.seq hs⟩, fun D hD => lc_list (K := K) (a := a) (xs := ns.map V.int) (fun j H2 => ∃ cs : List Int, Same H' H2 ∧ H2 D = some (.lst (cs.map V.int)) ∧ cs.length = j ∧ ∀ c ∈ cs, 0 ≤ c) ⟨[], same_new hD, upd_same, rfl, fun _ h => nomatch h⟩ (fun j H2 _ q => by
        obtain ⟨cs, s2, _⟩ := q
        exact s2.seq (s1.seq hs)) ?_ ?_⟩
      · rintro j x H2 hx ⟨cs, s2, e2, el, hc⟩
        obtain ⟨z, hz, rfl⟩ := getN hx
        have hj : j < 63 := by
          have := (List.getElem?_eq_some_iff.mp hz).1
          omega
        refine ⟨rfl, ?_⟩
        refine ⟨_, rfl, .inl ⟨_, rfl, ?_⟩⟩
        refine ⟨_, rfl, _, e2, small1000 (by rw [List.length_map]; omega), cs ++ [if z < 0 then -z else z], same_mut s2 hD, ?_, ?_, ?_⟩
        · rw [upd_same, List.map_append]
          rfl
        · rw [List.length_append, el]
          rfl
        · intro c hc'
          rcases List.mem_append.mp hc' with h | h
          · exact hc c h
          · have e : c = if z < 0 then -z else z := by simpa using h
            rw [e]
            split <;> omega
      · rintro H2 ⟨cs, s2, e2, el, hc⟩
        have hD' : H D = none := s1.free hD
        walk_at "r"
        refine ⟨by show 4 ≤ sizeLine; decide, fun p hp => ?_⟩
        have hp' : H p = none := (s1.trans s2).free hp
        have ne : D ≠ p := ne_of_none e2 hp
        refine k p D _ ((s1.trans s2).trans (same_new hp)) ⟨cs, 0, 0, t, upd_same, by rw [upd_ne ne]; exact e2, ne, by rw [List.length_map] at el; omega, hc, by omega, by omega, t0, t1⟩ hp' hD'
end
end Z

set_option Elab.async false
set_option linter.all false
set_option maxRecDepth 100000
namespace Z
open PySem L2
/-! ### closings -/
theorem relaxes_eq {M : Nat → Nat → Bool} {mid : Nat} : ∀ (k a b : Nat), relaxes M mid k a b = (M a b || (decide (a < k) && (M a mid && M mid b))) := by
  intro k
  induction k with
  | zero =>
    intro a b
    show M a b = _
    simp
  | succ k ih =>
    intro a b
    have e1 : relaxes M mid k k mid = M k mid := by
      rw [ih]
      simp
    have e2 : ∀ b, relaxes M mid k mid b = M mid b := fun b => by
      rw [ih]
      cases M mid b <;> simp
    have e3 : ∀ b, relaxes M mid k k b = M k b := fun b => by
      rw [ih]
      simp
    show relax (relaxes M mid k) mid k a b = _
    unfold relax
    rw [e1]
    by_cases h : M k mid = true
    · rw [if_pos h]
      by_cases ha : a = k
      · subst ha
        rw [if_pos rfl, e3, e2, h]
        simp
      · rw [if_neg ha, ih]
        by_cases hk : a < k
        · simp [hk, Nat.lt_succ_of_lt hk]
        · have : ¬ a < k + 1 := by omega
          simp [hk, this]
    · rw [if_neg h, ih]
      by_cases ha : a = k
      · subst ha
        have h' : M a mid = false := by
          cases q : M a mid <;> simp_all
        simp [h']
      · by_cases hk : a < k
        · simp [hk, Nat.lt_succ_of_lt hk]
        · have : ¬ a < k + 1 := by omega
          simp [hk, this]
def stepM (M : Nat → Nat → Bool) (k a b : Nat) : Bool := M a b || (M a k && M k b)
def wM (M : Nat → Nat → Bool) : Nat → Nat → Nat → Bool
  | 0 => M
  | k + 1 => stepM (wM M k) k
theorem close_w {n : Nat} {M : Nat → Nat → Bool} : ∀ (k : Nat), k ≤ n → ∀ a b, a < n → closeM n M k a b = wM M k a b := by
  intro k
  induction k with
  | zero => intro _ a b _; rfl
  | succ k ih =>
    intro hk a b ha
    have ih := ih (by omega)
    show relaxes (closeM n M k) k n a b = stepM (wM M k) k a b
    rw [relaxes_eq]
    unfold stepM
    rw [ih a b ha, ih a k ha, ih k b (by omega)]
    simp [ha]
theorem stepM_or {M : Nat → Nat → Bool} {k a b : Nat} : stepM M k a b = true ↔ M a b = true ∨ (M a k = true ∧ M k b = true) := by
  unfold stepM
  rw [Bool.or_eq_true, Bool.and_eq_true]
theorem wM_in {M : Nat → Nat → Bool} {a b : Nat} (h : M a b = true) : ∀ k, wM M k a b = true := by
  intro k
  induction k with
  | zero => exact h
  | succ k ih => exact stepM_or.mpr (.inl ih)
theorem wM_tr {M : Nat → Nat → Bool} : ∀ k m, m < k → ∀ a b, wM M k a m = true → wM M k m b = true → wM M k a b = true := by
  intro k
  induction k with
  | zero => intro m hm; omega
  | succ k ih =>
    intro m hm a b h1 h2
    have h1 := stepM_or.mp h1
    have h2 := stepM_or.mp h2
    refine stepM_or.mpr ?_
    by_cases e : m = k
    · subst e
      have p1 : wM M m a m = true := by
        rcases h1 with h | ⟨h, _⟩ <;> exact h
      have p2 : wM M m m b = true := by
        rcases h2 with h | ⟨_, h⟩ <;> exact h
      exact .inr ⟨p1, p2⟩
    · have ih := ih m (by omega)
      rcases h1 with h1 | ⟨h1, h1'⟩
      · rcases h2 with h2 | ⟨h2, h2'⟩
        · exact .inl (ih _ _ h1 h2)
        · exact .inr ⟨ih _ _ h1 h2, h2'⟩
      · rcases h2 with h2 | ⟨h2, h2'⟩
        · exact .inr ⟨h1, ih _ _ h1' h2⟩
        · exact .inr ⟨h1, h2'⟩
theorem wM_sub {M : Nat → Nat → Bool} {n : Nat} {T : Nat → Nat → Prop} (h0 : ∀ a b, M a b = true → T a b) (tr : ∀ a m b, m < n → T a m → T m b → T a b) : ∀ k, k ≤ n → ∀ a b, wM M k a b = true → T a b := by
  intro k
  induction k with
  | zero => intro _ a b h; exact h0 a b h
  | succ k ih =>
    intro hk a b h
    have ih := ih (by omega)
    rcases stepM_or.mp h with h | ⟨h1, h2⟩
    · exact ih _ _ h
    · exact tr a k b (by omega) (ih _ _ h1) (ih _ _ h2)
theorem bool_ext {a b : Bool} (h : a = true ↔ b = true) : a = b := Bool.eq_iff_iff.mpr h
/-! ### sums -/
def sumN : Nat → (Nat → Nat) → Nat
  | 0, _ => 0
  | n + 1, f => sumN n f + f n
theorem sumN_le {f g : Nat → Nat} : ∀ {n : Nat}, (∀ i, i < n → f i ≤ g i) → sumN n f ≤ sumN n g
  | 0, _ => Nat.le_refl _
  | n + 1, h => Nat.add_le_add (sumN_le fun i hi => h i (by omega)) (h n (by omega))
theorem sumN_eq {f g : Nat → Nat} {n : Nat} (h : ∀ i, i < n → f i = g i) : sumN n f = sumN n g :=
  Nat.le_antisymm (sumN_le fun i hi => Nat.le_of_eq (h i hi)) (sumN_le fun i hi => Nat.le_of_eq (h i hi).symm)
theorem sumN_add {f g : Nat → Nat} : ∀ n : Nat, sumN n (fun i => f i + g i) = sumN n f + sumN n g
  | 0 => rfl
  | n + 1 => by
    show sumN n (fun i => f i + g i) + (f n + g n) = (sumN n f + f n) + (sumN n g + g n)
    rw [sumN_add n]
    omega
theorem sumN_zero : ∀ n : Nat, sumN n (fun _ => 0) = 0
  | 0 => rfl
  | n + 1 => by
    show sumN n (fun _ => 0) + 0 = 0
    rw [sumN_zero n]
theorem sumN_swap {c : Nat → Nat → Nat} (m : Nat) : ∀ n : Nat, sumN n (fun x => sumN m fun y => c x y) = sumN m fun y => sumN n fun x => c x y
  | 0 => (sumN_zero m).symm
  | n + 1 => by
    show sumN n (fun x => sumN m fun y => c x y) + sumN m (fun y => c n y) = sumN m fun y => sumN n (fun x => c x y) + c n y
    rw [sumN_swap m n, sumN_add]
theorem sumN_const (k : Nat) : ∀ n : Nat, sumN n (fun _ => k) = n * k
  | 0 => by simp [sumN]
  | n + 1 => by
    show sumN n (fun _ => k) + k = _
    rw [sumN_const k n, Nat.add_mul, Nat.one_mul]
theorem sumN_one {x : Nat} : ∀ {n : Nat}, x < n → sumN n (fun y => if x = y then 1 else 0) = 1
  | n + 1, h => by
    show sumN n (fun y => if x = y then 1 else 0) + (if x = n then 1 else 0) = 1
    by_cases e : x = n
    · subst e
      have z : sumN x (fun y => if x = y then 1 else 0) = sumN x (fun _ => 0) := sumN_eq fun i hi => by
        rw [if_neg (by omega)]
      rw [z, sumN_zero, if_pos rfl]
    · rw [sumN_one (by omega), if_neg e]
theorem fl_sum {p : Nat → Bool} : ∀ n : Nat, (fl n p).length = sumN n fun i => if p i = true then 1 else 0
  | 0 => rfl
  | n + 1 => by
    show _ = sumN n _ + (if p n = true then 1 else 0)
    rw [← fl_sum n, fl_succ]
    by_cases h : p n = true
    · rw [if_pos h, if_pos h, List.length_append]
      rfl
    · rw [if_neg h, if_neg h]
      rfl
theorem fl_mono {p q : Nat → Bool} {n : Nat} (h : ∀ i, i < n → p i = true → q i = true) : (fl n p).length ≤ (fl n q).length := by
  rw [fl_sum, fl_sum]
  refine sumN_le fun i hi => ?_
  by_cases e : p i = true
  · rw [if_pos e, if_pos (h i hi e)]
    exact Nat.le_refl _
  · rw [if_neg e]
    exact Nat.zero_le _
theorem fl_congr {p q : Nat → Bool} {n : Nat} (h : ∀ i, i < n → p i = q i) : fl n p = fl n q := by
  unfold fl
  exact List.filter_congr fun i hi => h i (List.mem_range.mp hi)
theorem fl_mem {p : Nat → Bool} {n i : Nat} : i ∈ fl n p ↔ i < n ∧ p i = true := by
  unfold fl
  rw [List.mem_filter, List.mem_range]
theorem edges_sum {c : Nat → Nat → Bool} {n : Nat} : (edgesL n c).length = sumN n fun x => (fl n (c x)).length := by
  have go : ∀ k, ((List.range k).flatMap fun s => (fl n (c s)).map fun t => (s, t)).length = sumN k fun x => (fl n (c x)).length := fun k => by
    induction k with
    | zero => rfl
    | succ k ih =>
      rw [List.range_succ, List.flatMap_append, List.length_append, ih]
      show _ + _ = sumN k _ + _
      simp
  exact go n
theorem edges_mem {c : Nat → Nat → Bool} {n x y : Nat} : (x, y) ∈ edgesL n c ↔ x < n ∧ y < n ∧ c x y = true := by
  unfold edgesL
  rw [List.mem_flatMap]
  constructor
  · rintro ⟨s, hs, h⟩
    obtain ⟨t, ht, e⟩ := List.mem_map.mp h
    cases e
    exact ⟨List.mem_range.mp hs, fl_mem.mp ht⟩
  · rintro ⟨hx, hy, h⟩
    exact ⟨x, List.mem_range.mpr hx, List.mem_map.mpr ⟨y, fl_mem.mpr ⟨hy, h⟩, rfl⟩⟩
theorem edges_congr {c d : Nat → Nat → Bool} {n : Nat} (h : ∀ x y, x < n → y < n → c x y = d x y) : edgesL n c = edgesL n d := by
  have go : ∀ k, k ≤ n → ((List.range k).flatMap fun s => (fl n (c s)).map fun t => (s, t)) = ((List.range k).flatMap fun s => (fl n (d s)).map fun t => (s, t)) := fun k => by
    induction k with
    | zero => intro _; rfl
    | succ k ih =>
      intro hk
      rw [List.range_succ, List.flatMap_append, List.flatMap_append, ih (by omega)]
      simp only [List.flatMap_cons, List.flatMap_nil]
      rw [fl_congr fun i hi => h k i (by omega) hi]
  exact go n (Nat.le_refl _)
/-! ### orders -/
/-- a partial order of the numbers below n with the least one 0 -/
structure PO (n : Nat) (B : Nat → Nat → Bool) (rk : Nat → Nat) : Prop where
  n1 : 1 ≤ n
  n24 : n ≤ 24
  rf : ∀ x, x < n → B x x = true
  tr : ∀ x y z, x < n → y < n → z < n → B x y = true → B y z = true → B x z = true
  ls : ∀ y, y < n → B 0 y = true
  up : ∀ x y, x < n → y < n → x ≠ y → B x y = true → rk x < rk y
def sB (B : Nat → Nat → Bool) (x y : Nat) : Bool := decide (y ≠ x) && B x y
def cvB (n : Nat) (B : Nat → Nat → Bool) (x y : Nat) : Bool := sB B x y && (fl n fun z => sB B x z && (decide (z ≠ y) && B z y)).isEmpty
theorem sB_iff {B : Nat → Nat → Bool} {x y : Nat} : sB B x y = true ↔ y ≠ x ∧ B x y = true := by
  unfold sB
  rw [Bool.and_eq_true, decide_eq_true_eq]
theorem cvB_iff {n : Nat} {B : Nat → Nat → Bool} {x y : Nat} : cvB n B x y = true ↔ sB B x y = true ∧ ∀ z, z < n → ¬ (sB B x z = true ∧ sB B z y = true) := by
  unfold cvB
  rw [Bool.and_eq_true, List.isEmpty_iff]
  refine and_congr_right fun _ => ⟨fun h z hz q => ?_, fun h => ?_⟩
  · have m : z ∈ fl n fun z => sB B x z && (decide (z ≠ y) && B z y) := fl_mem.mpr ⟨hz, by
      obtain ⟨q1, q2⟩ := q
      have q2 := sB_iff.mp q2
      rw [q1, q2.2, decide_eq_true (Ne.symm q2.1)]
      rfl⟩
    rw [h] at m
    cases m
  · cases e : fl n fun z => sB B x z && (decide (z ≠ y) && B z y) with
    | nil => rfl
    | cons z l =>
      have m : z ∈ fl n fun z => sB B x z && (decide (z ≠ y) && B z y) := by
        rw [e]
        exact List.mem_cons_self
      obtain ⟨hz, q⟩ := fl_mem.mp m
      rw [Bool.and_eq_true, Bool.and_eq_true, decide_eq_true_eq] at q
      exact absurd ⟨q.1, sB_iff.mpr ⟨Ne.symm q.2.1, q.2.2⟩⟩ (h z hz)
section
variable {n : Nat} {B : Nat → Nat → Bool} {rk : Nat → Nat}
theorem PO.str (p : PO n B rk) {x y z : Nat} (hx : x < n) (hy : y < n) (hz : z < n) (h1 : sB B x y = true) (h2 : sB B y z = true) : sB B x z = true := by
  have h1 := sB_iff.mp h1
  have h2 := sB_iff.mp h2
  have a := p.up x y hx hy (Ne.symm h1.1) h1.2
  have b := p.up y z hy hz (Ne.symm h2.1) h2.2
  exact sB_iff.mpr ⟨fun e => by rw [e] at b; omega, p.tr x y z hx hy hz h1.2 h2.2⟩
/-- what pairs close to -/
theorem PO.close (p : PO n B rk) {prs : List (Nat × Nat)} (h1 : ∀ z ∈ prs, z.1 < n ∧ z.2 < n ∧ sB B z.1 z.2 = true) (h2 : ∀ x y, x < n → y < n → cvB n B x y = true → (x, y) ∈ prs) {x y : Nat} (hx : x < n) (hy : y < n) :
    closeM n (initM prs) n x y = sB B x y := by
  rw [close_w n (Nat.le_refl _) x y hx]
  refine bool_ext ⟨fun h => ?_, fun h => ?_⟩
  · exact wM_sub (M := initM prs) (n := n) (T := fun a b => a < n ∧ b < n ∧ sB B a b = true) (fun a b h => h1 (a, b) (of_decide_eq_true h)) (fun a m b hm q1 q2 => ⟨q1.1, q2.2.1, p.str q1.1 hm q2.2.1 q1.2.2 q2.2.2⟩) n (Nat.le_refl _) x y h |>.2.2
  · have go : ∀ d x y, x < n → y < n → sB B x y = true → rk y - rk x ≤ d → wM (initM prs) n x y = true := fun d => by
      induction d with
      | zero =>
        intro x y hx hy h hd
        have := p.up x y hx hy (Ne.symm (sB_iff.mp h).1) (sB_iff.mp h).2
        omega
      | succ d ih =>
        intro x y hx hy h hd
        by_cases c : cvB n B x y = true
        · exact wM_in (M := initM prs) (decide_eq_true (h2 x y hx hy c)) n
        · have ex : ∃ z, z < n ∧ sB B x z = true ∧ sB B z y = true := by
            by_cases q : ∃ z, z < n ∧ sB B x z = true ∧ sB B z y = true
            · exact q
            · exact absurd (cvB_iff.mpr ⟨h, fun z hz k => q ⟨z, hz, k.1, k.2⟩⟩) c
          obtain ⟨z, hz, a, b⟩ := ex
          have u1 := p.up x z hx hz (Ne.symm (sB_iff.mp a).1) (sB_iff.mp a).2
          have u2 := p.up z y hz hy (Ne.symm (sB_iff.mp b).1) (sB_iff.mp b).2
          exact wM_tr n z hz x y (ih x z hx hz a (by omega)) (ih z y hz hy b (by omega))
    exact go _ x y hx hy h (Nat.le_refl _)
theorem PO.count (p : PO n B rk) : (edgesL n (sB B)).length ≤ 276 := by
  rw [edges_sum]
  have e : ∀ x, (fl n (sB B x)).length = sumN n fun y => if sB B x y = true then 1 else 0 := fun x => fl_sum n
  have e2 : sumN n (fun x => (fl n (sB B x)).length) = sumN n fun x => sumN n fun y => if sB B x y = true then 1 else 0 := sumN_eq fun x _ => e x
  have sw := sumN_swap (c := fun x y => if sB B x y = true then 1 else 0) n n
  have one : sumN n (fun x => sumN n fun y => if x = y then 1 else 0) = n := by
    rw [sumN_eq (g := fun _ => 1) fun x hx => sumN_one hx, sumN_const, Nat.mul_one]
  have tot : sumN n (fun x => sumN n fun y => ((if sB B x y = true then 1 else 0) + (if sB B y x = true then 1 else 0)) + (if x = y then 1 else 0)) ≤ n * n := by
    rw [← sumN_const n n]
    refine sumN_le fun x hx => ?_
    have z : sumN n (fun _ => 1) = n := by rw [sumN_const, Nat.mul_one]
    refine Nat.le_trans (sumN_le (g := fun _ => 1) fun y hy => ?_) (Nat.le_of_eq z)
    by_cases e : x = y
    · subst e
      have q : ¬ sB B x x = true := fun h => (sB_iff.mp h).1 rfl
      rw [if_neg q, if_pos rfl]
      exact Nat.le_refl _
    · rw [if_neg e]
      by_cases q1 : sB B x y = true
      · have q2 : ¬ sB B y x = true := fun h => by
          have u1 := p.up x y hx hy e (sB_iff.mp q1).2
          have u2 := p.up y x hy hx (Ne.symm e) (sB_iff.mp h).2
          omega
        rw [if_pos q1, if_neg q2]
        exact Nat.le_refl _
      · rw [if_neg q1]
        by_cases q2 : sB B y x = true
        · rw [if_pos q2]
          exact Nat.le_refl _
        · rw [if_neg q2]
          exact Nat.zero_le _
  have sp : sumN n (fun x => sumN n fun y => ((if sB B x y = true then 1 else 0) + (if sB B y x = true then 1 else 0)) + (if x = y then 1 else 0)) = (sumN n (fun x => sumN n fun y => if sB B x y = true then 1 else 0) + sumN n (fun x => sumN n fun y => if sB B y x = true then 1 else 0)) + sumN n (fun x => sumN n fun y => if x = y then 1 else 0) := by
    rw [← sumN_add, ← sumN_add]
    exact sumN_eq fun x _ => by rw [sumN_add, sumN_add]
  rw [sp, one, ← sw] at tot
  rw [e2]
  have b : n * n ≤ 24 * n := Nat.mul_le_mul_right _ p.n24
  have c := p.n24
  omega
theorem cv_le {n : Nat} {B : Nat → Nat → Bool} : (edgesL n (cvB n B)).length ≤ (edgesL n (sB B)).length := by
  rw [edges_sum, edges_sum]
  refine sumN_le fun x _ => fl_mono fun y _ h => ?_
  exact (cvB_iff.mp h).1
end
/-! ### orders out of pairs -/
def refM (prs : List (Nat × Nat)) (x y : Nat) : Bool := decide (x = y) || (decide (x = 0) || decide ((x, y) ∈ prs))
theorem po_of {n : Nat} {prs : List (Nat × Nat)} {rk : Nat → Nat} (h1 : 1 ≤ n) (h24 : n ≤ 24) (hp : ∀ z ∈ prs, z.1 < n ∧ z.2 < n ∧ rk z.1 < rk z.2) (h0 : ∀ x, x < n → x ≠ 0 → rk 0 < rk x) : PO n (wM (refM prs) n) rk := by
  refine ⟨h1, h24, fun x hx => wM_in (by simp [refM]) n, fun x y z _ hy _ => wM_tr n y hy x z, fun y hy => wM_in (by simp [refM]) n, fun x y hx hy ne h => ?_⟩
  have s := wM_sub (M := refM prs) (n := n) (T := fun a b => a < n → b < n → a = b ∨ rk a < rk b) (fun a b q ha hb => ?_) (fun a m b hm q1 q2 ha hb => ?_) n (Nat.le_refl _) x y h hx hy
  · rcases s with s | s
    · exact absurd s ne
    · exact s
  · unfold refM at q
    rw [Bool.or_eq_true, Bool.or_eq_true, decide_eq_true_eq, decide_eq_true_eq, decide_eq_true_eq] at q
    rcases q with q | q | q
    · exact .inl q
    · subst q
      by_cases e : b = 0
      · exact .inl e.symm
      · exact .inr (h0 b hb e)
    · exact .inr (hp _ q).2.2
  · rcases q1 ha hm with e1 | e1
    · subst e1
      exact q2 hm hb
    · rcases q2 hm hb with e2 | e2
      · subst e2
        exact .inr e1
      · exact .inr (Nat.lt_trans e1 e2)
end Z

set_option Elab.async false
set_option linter.all false
set_option maxRecDepth 100000
set_option maxHeartbeats 1200000
namespace Z
open PySem L2
open PySem.Spec PyProof.Rows
local macro_rules | `(tactic| walk_at "side") => `(tactic| first | omega | (unfold CMul; omega) | (unfold CDiv; omega) | (unfold CDivN; omega) | (unfold CPow; omega) | decide)
local macro_rules | `(tactic| walk_at "lst") => `(tactic| first | exact SqL.of (by assumption) | exact SqL.of upd_same | assumption | exact upd_same)
local macro_rules | `(tactic| walk_at "r1") => `(tactic| first | refine ⟨_, rfl, ?_⟩ | refine ⟨_, _, rfl, rfl, ?_⟩ | refine Or.inl ⟨_, rfl, ?_⟩ | refine And.intro rfl ?_ | refine ⟨_, _, _, _, rfl, rfl, by walk_at "lst", rfl, ?_⟩ | refine ⟨_, _, rfl, Or.inl (by walk_at "lst"), ?_⟩ | refine And.intro (by walk_at "side") ?_)
local macro_rules | `(tactic| walk_at "r") => `(tactic| repeat walk_at "r1")
/-! ### methods, len and == of own objects -/
structure CalM (P : Program) (w : World) (K : PySem.W.Frag) (mg : Str → Option Value) (base : Heap) (CX : CXT) (C : Addr) (m : Str) (k : Nat) (sp : Sp) : Prop where
  ex : ∃ (f : Addr) (fd : FuncData) (ps : List Str), Meth K C m f ∧ Binds K fd ps [] ∧ FnOk P w K mg base CX k f fd ps sp
section
variable {X : Cx} {CX : CXT} {C : Addr} {m : Str} {k : Nat} {sp : Sp} {e o : Expr} {es : List Expr} {ta : TE} {t : TA} {p pos apos : Pos}
theorem pe_calM {pl : Sem Bool} (c : CalM X.prog X.w X.K X.mg X.base CX0 C m k sp) (cl : Cls X.K C) (he : PE X o ta) (hr : Room k X.A) (ha : PA X (e :: es) t)
    (hst : starEach (e :: es) X.env = (false, eval e X.env) :: starEach es X.env := by rfl) (hpl : (backTo pos (starEach es X.env)).any (·.1) = false := by rfl)
    (ht : eval (.Call (.Attribute o m apos) (e :: es) [] pos) X.env = (do
      let ov ← eval o X.env
      standAt apos.atName
      let (f, first) ← holding [ov] (getMethod ov m pl)
      callWith pos f first (backTo pos (starEach (e :: es) X.env)) (backToKw pos (keywordEach [] X.env))) := by rfl) :
    PE X (.Call (.Attribute o m apos) (e :: es) [] pos) (tMeth C m sp [] E0 ta t) := by
  obtain ⟨f, fd, ps, hm, hb, F⟩ := c.ex
  exact pe_meth he cl hm F hr hb .nil pass0 ha hst hpl ht
/-- len(o) by an own __len__ -/
def rLenO (C : Addr) (sp : Sp) : List V → Hp → VK → Prop := fun xs H Q => ∃ (a dx : Addr) (fs : List (Str × V)), xs = [.ref a] ∧ H a = some (.ins C dx fs) ∧ sp [.ref a] H (fun v H' => ∃ n : Nat, v = .int n ∧ n < 1000 ∧ Q v H') E0
theorem call_lenO (c : CalM X.prog X.w X.K X.mg X.base CX0 C "__len__" k sp) (hr : Room (k + 1) X.A) : CallR X (.builtin "len") (rLenO C sp) := by
  intro pins s σ H xs us Q I r h
  obtain ⟨a, dx, fs, rfl, ea, q⟩ := h
  obtain ⟨u, rfl, rx⟩ := vals1 r
  cases rx
  obtain ⟨f, fd, ps, hm, hb, F⟩ := c.ex
  obtain ⟨mA, J, _⟩ := ins_get I.hok ea
  obtain ⟨od, J, _⟩ := J.look
  have hl := F.len _ _ _ _ q
  have e0 : Env0 X.prog X.w X.K X.mg X.base X.A.in1 X.stack s H := by
    have e := I.env0
    exact ⟨e.frames, e.mod, e.bs, e.bsz, e.funs, e.frf, e.hok, e.bare⟩
  refine Calls.call_function_entry PySem.kind_len PySem.plain_len PySem.entry_len (PySem.args_len1 _) ?_
  unfold Builtin.«len»
  refine wpAny_bind (m := oneArg "len" _) (wpAny_pure ?_)
  refine wpAny_bind (m := callSpecial? (.ref a) (Str.ofString "__len__")) (PySem.W.special_fn I.kIn J hm.at_ (beq_iff_eq.mp hm.fn) ?_)
  refine wpAny_call (codeAny_mono (F.run X.A.in1 X.stack s H ⟨[.ref a], []⟩ [.ref a] [.ref a] _ E0 hr.in1 e0 (by
    have := hb s [.ref a] I.kIn (by simpa using hl)
    simpa using this) (.cons rfl .nil) q) fun res s' hq => ?_)
  cases res with
  | error e => exact (pass0 pins σ H s e s' I hq)
  | ok fl =>
    cases fl with
    | ret w =>
      obtain ⟨z, H', I', rz, n, ez, hn, qz⟩ := I.after hq
      subst ez
      obtain ⟨tk, rfl⟩ := (show ∃ tk, w = Value.int (n : Int) tk from rz)
      refine wpAny_bind (wpAny_holding (wpAny_pure ?_))
      refine wpAny_bind (wpAny_letGo ?_)
      show wpAny _ _ (if (n : Int) < 0 then _ else _) _ _ _
      rw [if_neg (by omega)]
      show wpAny _ _ (if (n : Int) ≥ 2 ^ 63 then _ else _) _ _ _
      rw [if_neg (by omega)]
      refine wpAny_bind (wpAny_mkInt (wpAny_pure ?_))
      exact ⟨_, rfl, .int n, H', I'.tok _, ⟨_, rfl⟩, qz⟩
    | next => exact False.elim hq
    | brk => exact False.elim hq
    | cont => exact False.elim hq
/-- x == y by an own __eq__ -/
def rEqO (C : Addr) (sp : Sp) : R2 := fun x y H Q => ∃ (a b dx dy : Addr) (fs gs : List (Str × V)), x = .ref a ∧ y = .ref b ∧ H a = some (.ins C dx fs) ∧ H b = some (.ins C dy gs) ∧ sp [.ref a, .ref b] H (fun v H' => ∃ r : Bool, v = .bl r ∧ Q v H') E0
theorem op_eqO (c : CalM X.prog X.w X.K X.mg X.base CX0 C "__eq__" k sp) (hr : Room k X.A) : OpR X (compareOp .Eq) (rEqO C sp) := by
  intro pins s σ H x y v u Q I rx ry h
  obtain ⟨a, b, dx, dy, fs, gs, rfl, rfl, ea, eb, q⟩ := h
  cases rx
  cases ry
  obtain ⟨f, fd, ps, hm, hb, F⟩ := c.ex
  obtain ⟨mA, J, _⟩ := ins_get I.hok ea
  obtain ⟨mB, J', _⟩ := ins_get I.hok eb
  obtain ⟨od, J, _⟩ := J.look
  obtain ⟨od', J', _⟩ := J'.look
  obtain ⟨m, hF⟩ := I.fr
  have hl := F.len _ _ _ _ q
  show wpAny (model X.prog X.w) X.A (richCompare .Eq (.ref a) (.ref b)) (EP X pins σ Q) X.xe s
  refine PySem.W.cmp_K (op := .Eq) (tb := .ref C) hr.units0 hF I.ok.mod.kin J J'.type (by simp [PySem.W.notFirst]) hm.at_ hm.fn ?_
  refine wpAny_call (codeAny_mono (F.run X.A X.stack s H ⟨[.ref a, .ref b], []⟩ [.ref a, .ref b] [.ref a, .ref b] _ E0 hr I.env0 (by
    have := hb s [.ref a, .ref b] I.kIn (by simpa using hl)
    simpa using this) (.cons rfl (.cons rfl .nil)) q) fun r s' hq => ?_)
  cases r with
  | error e => exact (pass0 pins σ H s e s' I hq)
  | ok fl =>
    cases fl with
    | ret w =>
      obtain ⟨z, H', I', rz, r, ez, qz⟩  := I.after hq
      subst ez
      cases rz
      exact ⟨.bl r, H', I', rfl, qz⟩
    | next => exact False.elim hq
    | brk => exact False.elim hq
    | cont => exact False.elim hq
end
end Z

set_option Elab.async false
set_option linter.all false
set_option maxRecDepth 100000
set_option maxHeartbeats 1200000
namespace Z
open PySem L2
open PySem.Spec PyProof.Rows
local macro_rules | `(tactic| walk_at "side") => `(tactic| first | omega | (unfold CMul; omega) | (unfold CDiv; omega) | (unfold CDivN; omega) | (unfold CPow; omega) | decide)
local macro_rules | `(tactic| walk_at "lst") => `(tactic| first | exact SqL.of (by assumption) | exact SqL.of upd_same | assumption | exact upd_same)
local macro_rules | `(tactic| walk_at "r1") => `(tactic| first | refine ⟨_, rfl, ?_⟩ | refine ⟨_, _, rfl, rfl, ?_⟩ | refine Or.inl ⟨_, rfl, ?_⟩ | refine And.intro rfl ?_ | refine ⟨_, _, _, _, rfl, rfl, by walk_at "lst", rfl, ?_⟩ | refine ⟨_, _, rfl, Or.inl (by walk_at "lst"), ?_⟩ | refine And.intro (by walk_at "side") ?_)
local macro_rules | `(tactic| walk_at "r") => `(tactic| repeat walk_at "r1")
theorem OrdF.same {H H' : Hp} {o C dx : Addr} {n : Nat} {M c : Nat → Nat → Bool} (d : OrdF H o C dx n M c) (s : Same H H') : OrdF H' o C dx n M c := by
  obtain ⟨pa, pb, pc, pe, pd, ra, rb, rc, rd, h, ⟨a1, a2, a3⟩, ⟨b1, b2, b3⟩, ⟨c1, c2, c3⟩, e1, d1, d2⟩ := d.ex
  exact ⟨pa, pb, pc, pe, pd, ra, rb, rc, rd, s _ _ h, ⟨s _ _ a1, a2, a3.same s⟩, ⟨s _ _ b1, b2, b3.same s⟩, ⟨s _ _ c1, c2, c3.same s⟩, s _ _ e1, s _ _ d1, d2.same s⟩
/-- a store to a list leaves an order as it is -/
theorem OrdF.put {H : Hp} {o C dx l : Addr} {n : Nat} {M c : Nat → Nat → Bool} {xs ys : List V} (d : OrdF H o C dx n M c) (hl : H l = some (.lst xs)) : OrdF (upd H l (.lst ys)) o C dx n M c := by
  have go : ∀ b u, H b = some u → (∀ zs, u ≠ .lst zs) → upd H l (.lst ys) b = some u := fun b u e ne => by
    rw [upd_ne (fun z => by
      rw [z, hl] at e
      cases e
      exact ne _ rfl)]
    exact e
  obtain ⟨pa, pb, pc, pe, pd, ra, rb, rc, rd, h, ⟨a1, a2, a3⟩, ⟨b1, b2, b3⟩, ⟨c1, c2, c3⟩, e1, d1, d2⟩ := d.ex
  have tt : ∀ {rs : List Addr} {f : Nat → List Nat}, TupsAt H rs f → TupsAt (upd H l (.lst ys)) rs f := fun t x r e => go _ _ (t x r e) fun _ z => by cases z
  exact ⟨pa, pb, pc, pe, pd, ra, rb, rc, rd, go _ _ h fun _ z => by (cases z), ⟨go _ _ a1 fun _ z => by (cases z), a2, tt a3⟩, ⟨go _ _ b1 fun _ z => by (cases z), b2, tt b3⟩, ⟨go _ _ c1 fun _ z => by (cases z), c2, tt c3⟩, go _ _ e1 fun _ z => by (cases z), go _ _ d1 fun _ z => by (cases z), d2.1, fun i r q a b => go _ _ (d2.2 i r q a b) fun _ z => by cases z⟩
theorem OrdF.congr {H : Hp} {o C dx : Addr} {n : Nat} {M c M' c' : Nat → Nat → Bool} (d : OrdF H o C dx n M c) (hM : ∀ x y, x < n → y < n → M x y = M' x y) (hc : ∀ x y, x < n → y < n → c x y = c' x y) : OrdF H o C dx n M' c' := by
  obtain ⟨pa, pb, pc, pe, pd, ra, rb, rc, rd, h, ⟨a1, a2, a3⟩, ⟨b1, b2, b3⟩, ⟨c1, c2, c3⟩, e1, d1, d2⟩ := d.ex
  have lt : ∀ {rs : List Addr} {x : Nat} {r : Addr}, rs.length = n → rs[x]? = some r → x < n := fun e1 e => by
    have := (List.getElem?_eq_some_iff.mp e).1
    omega
  refine ⟨pa, pb, pc, pe, pd, ra, rb, rc, rd, h, ⟨a1, a2, fun x r e => ?_⟩, ⟨b1, b2, fun x r e => ?_⟩, ⟨c1, c2, fun x r e => ?_⟩, ?_, d1, ?_⟩
  · have q : fl n (M x) = fl n (M' x) := fl_congr fun y hy => hM x y (lt a2 e) hy
    rw [a3 x r e]
    show some (HO.tup (natsV (fl n (M x)))) = some (HO.tup (natsV (fl n (M' x))))
    rw [q]
  · have q : (fl n fun y => M y x) = fl n fun y => M' y x := fl_congr fun y hy => hM y x hy (lt b2 e)
    rw [b3 x r e]
    show some (HO.tup (natsV (fl n fun y => M y x))) = some (HO.tup (natsV (fl n fun y => M' y x)))
    rw [q]
  · have q : fl n (c x) = fl n (c' x) := fl_congr fun y hy => hc x y (lt c2 e) hy
    rw [c3 x r e]
    show some (HO.tup (natsV (fl n (c x)))) = some (HO.tup (natsV (fl n (c' x))))
    rw [q]
  · rw [e1]
    have e : fl n (fun s => (fl n (c s)).isEmpty) = fl n fun s => (fl n (c' s)).isEmpty := fl_congr fun s hs => by rw [fl_congr fun y hy => hc s y hs hy]
    rw [e]
  · rw [← edges_congr hc]
    exact d2
theorem findN_none {p : Nat → Bool} : ∀ {k i : Nat}, (∀ j, i ≤ j → j < i + k → p j = false) → findN p i k = none
  | 0, _, _ => rfl
  | k + 1, i, h => by
    unfold findN
    rw [h i (Nat.le_refl _) (by omega)]
    exact findN_none fun j h1 h2 => h j (by omega) (by omega)
section
variable {n : Nat} {B : Nat → Nat → Bool} {rk : Nat → Nat}
theorem PO.cov (p : PO n B rk) {M : Nat → Nat → Bool} (hM : ∀ x y, x < n → y < n → M x y = sB B x y) {x y : Nat} (hx : x < n) (hy : y < n) : covB n M x y = cvB n B x y := by
  refine bool_ext ?_
  rw [cvB_iff]
  unfold covB
  rw [Bool.and_eq_true, hM x y hx hy, Bool.not_eq_true']
  refine and_congr_right fun _ => ⟨fun h z hz q => ?_, fun h => ?_⟩
  · have : (((List.range n).map fun mid => M x mid && M mid y).any id) = true := by
      rw [List.any_map]
      exact List.any_eq_true.mpr ⟨z, List.mem_range.mpr hz, by
        show (M x z && M z y) = true
        rw [hM x z hx hz, hM z y hz hy, q.1, q.2]
        rfl⟩
    rw [h] at this
    cases this
  · cases e : ((List.range n).map fun mid => M x mid && M mid y).any id with
    | false => rfl
    | true =>
      rw [List.any_map] at e
      obtain ⟨z, hz, q⟩ := List.any_eq_true.mp e
      have hz := List.mem_range.mp hz
      have q : (M x z && M z y) = true := q
      rw [hM x z hx hz, hM z y hz hy, Bool.and_eq_true] at q
      exact absurd q (h z hz)
theorem PO.fault (p : PO n B rk) {M : Nat → Nat → Bool} (hM : ∀ x y, x < n → y < n → M x y = sB B x y) : closedFault n M = none := by
  have n1 := p.n1
  refine cf_none (findN_none fun j _ hj => ?_) (findN_none fun j h1 hj => ?_)
  · have hj : j < n := by omega
    show M j j = false
    rw [hM j j hj hj]
    unfold sB
    simp
  · have hj : j < n := by omega
    show (!M 0 j) = false
    rw [hM 0 j (by omega) hj, sB_iff.mpr ⟨by omega, p.ls j hj⟩]
    rfl
/-- pairs between the edges and the whole order make the order -/
theorem PO.made (p : PO n B rk) {d : PyData} {ds : List PyData} (hs : seqOf d = some ds) (hl : ds.length ≤ 600) (hc : ∀ e ∈ ds, couple e ((n : Int) - 1) = true) (h1 : ∀ e ∈ ds, sB B (prOf e).1 (prOf e).2 = true)
    (h2 : ∀ x y, x < n → y < n → cvB n B x y = true → (x, y) ∈ ds.map prOf) : ordFault (.int (n : Int)) d = none ∧ ∀ {H : Hp} {o C dx : Addr}, OrdF H o C dx (natOf (.int (n : Int))) (clM (natOf (.int (n : Int))) d) (covB (natOf (.int (n : Int))) (clM (natOf (.int (n : Int))) d)) → OrdF H o C dx n (sB B) (cvB n B) := by
  have hn : natOf (.int (n : Int)) = n := by
    show ((n : Int)).toNat = n
    omega
  have h24 := p.n24
  have n1 := p.n1
  have hM : ∀ x y, x < n → y < n → clM n d x y = sB B x y := fun x y hx hy => by
    unfold clM prsOf
    rw [hs]
    refine p.close (fun z hz => ?_) h2 hx hy
    obtain ⟨e, he, rfl⟩ := List.mem_map.mp hz
    obtain ⟨a, b, _, e2, ha, hb⟩ := couple_ok (hc e he)
    refine ⟨?_, ?_, h1 e he⟩
    · rw [e2]
      show a < n
      omega
    · rw [e2]
      show b < n
      omega
  have pf : ∀ (l : List PyData) (i : Nat), (∀ e ∈ l, couple e ((n : Int) - 1) = true) → pairFault ((n : Int) - 1) l i = none := fun l => by
    induction l with
    | nil => intro i _; rfl
    | cons e l ih =>
      intro i h
      unfold pairFault
      rw [if_pos (h e List.mem_cons_self)]
      exact ih _ fun e he => h e (List.mem_cons_of_mem _ he)
  rw [hn]
  refine ⟨?_, fun h => h.congr hM fun x y hx hy => p.cov hM hx hy⟩
  have w : whole (.int (n : Int)) (some 1) (some 24) = true := by
    show (decide ((1 : Int) ≤ (n : Int)) && decide ((n : Int) ≤ 24)) = true
    rw [Bool.and_eq_true, decide_eq_true_eq, decide_eq_true_eq]
    omega
  have e1 : partsFault (.int (n : Int)) d = none := by
    unfold partsFault
    rw [if_pos w, hs]
    show (if ds.length ≤ 600 then _ else _) = none
    rw [if_pos hl]
    show pairF (pairFault ((n : Int) - 1) ds 0) = none
    rw [pf ds 0 hc]
    rfl
  unfold ordFault
  rw [e1, hn]
  exact p.fault hM
end
end Z

set_option Elab.async false
set_option linter.all false
set_option maxRecDepth 100000
namespace Z
open PySem L2
local macro_rules | `(tactic| walk_at "side") => `(tactic| first | omega | (unfold CMul; omega) | (unfold CDiv; omega) | (unfold CDivN; omega) | (unfold CPow; omega) | decide)
local macro_rules | `(tactic| walk_at "lst") => `(tactic| first | exact SqL.of (by assumption) | exact SqL.of upd_same | assumption | exact upd_same)
local macro_rules | `(tactic| walk_at "r1") => `(tactic| first | refine ⟨_, rfl, ?_⟩ | refine ⟨_, _, rfl, rfl, ?_⟩ | refine Or.inl ⟨_, rfl, ?_⟩ | refine And.intro rfl ?_ | refine ⟨_, _, _, _, rfl, rfl, by walk_at "lst", rfl, ?_⟩ | refine ⟨_, _, rfl, Or.inl (by walk_at "lst"), ?_⟩ | refine And.intro (by walk_at "side") ?_)
local macro_rules | `(tactic| walk_at "r") => `(tactic| repeat walk_at "r1")
theorem kinD {X : Cx} (K : PySem.W.Frag) (hu : X.A.units + 65 < cLine) (h : X.K = K := by rfl) : OpR X (compareOp .In) (rInD K) := by
  rw [← h]
  exact op_inD hu
theorem hu65 {A : Around} {k : Nat} (hr : Room k A) : A.units + 65 < cLine := by
  have := hr.un
  omega
def cpD (z : Nat × Nat) : PyData := .tuple [.int z.1, .int z.2]
theorem cpD_shaped (z : Nat × Nat) : SeqAt.shaped (cpD z) = true := by
  simp [cpD, SeqAt.shaped, PyData.canLay0, PyData.canLayAll0, PyData.depth, PyData.depthAll]
theorem cpDs_lay : ∀ zs : List (Nat × Nat), PyData.canLayAll0 (zs.map cpD) = true
  | [] => by simp [PyData.canLayAll0]
  | z :: zs => by simp [PyData.canLayAll0, cpD, PyData.canLay0, cpDs_lay zs]
theorem cpDs_depth : ∀ zs : List (Nat × Nat), PyData.depthAll (zs.map cpD) ≤ 2
  | [] => by simp [PyData.depthAll]
  | z :: zs => by
    have h1 := cpDs_depth zs
    have h2 : (cpD z).depth ≤ 2 := by simp [cpD, PyData.depth, PyData.depthAll]
    simp only [List.map_cons, PyData.depthAll]
    omega
theorem cpDs_shaped (zs : List (Nat × Nat)) : SeqAt.shaped (.list (zs.map cpD)) = true := by
  have h1 := cpDs_depth zs
  have h2 : PyData.depth (.list (zs.map cpD)) ≤ 64 := by
    simp only [PyData.depth]
    omega
  show (PyData.canLay0 (.list (zs.map cpD)) && decide (PyData.depth (.list (zs.map cpD)) ≤ 64)) = true
  rw [Bool.and_eq_true]
  exact ⟨by simp only [PyData.canLay0]; exact cpDs_lay zs, decide_eq_true h2⟩
theorem NewM.one {H : Hp} {D : Addr} (hD : H D = none) : NewM H (upd H D (.lst [])) D 0 (fun _ _ => false) [] :=
  ⟨same_new hD, ⟨upd_same, rfl, (fun _ _ h => by cases h), .nil, fun h => nomatch h⟩, hD, fun _ h => nomatch h⟩
/-- [[..] for x in range(n)] -/
theorem lc_matr {te : TE} {n i : Nat} {vs : List Nat} {σ : L2.St} {H1 : Hp} {D : Addr} {Qd : Hp → Prop} (M : Nat → Nat → Bool) (hn : n ≤ 600) (hD : H1 D = none)
    (hw : ∀ y, wipe ((wipe σ vs).set i (some y)) vs = wipe σ vs)
    (he : ∀ x H' Q, x < n → Same H1 H' → (∀ r H2, Same H' H2 → H' r = none → H2 r = some (.lst (rowV n (M x))) → Q (.ref r) H2) → te ((wipe σ vs).set i (some (.int (0 + (x : Nat))))) H' Q)
    (hd : ∀ rs H', NewM H1 H' D n M rs → Qd H') :
    ∃ W : Nat → Nat → Hp → Prop, (∃ m, W 0 m (upd H1 D (.lst []))) ∧ ∀ j m H, W j m H →
      ((Itr 0 n).stop j H ∧ Qd H) ∨ ((Itr 0 n).go j H ∧ ∃ Nx : Hp → Prop, (∀ H', Nx H' → ∃ m', m' < m ∧ W (j + 1) m' H') ∧ ∀ x H', (Itr 0 n).yld j H x H' → gName i x (wipe σ vs) H' fun σ2 H2 => wipe σ2 vs = wipe σ vs ∧ tYes σ2 H2 fun b H3 =>
        if b = true then te σ2 H3 fun y H4 => ∃ acc, H4 D = some (.lst acc) ∧ acc.length < sizeLine ∧ Nx (upd H4 D (.lst (acc ++ [y]))) else Nx H3) := by
  refine lc_range (lo := 0) (n := n) (fun j H' => ∃ rs : List Addr, Same H1 H' ∧ H' D = some (.lst (rs.map V.ref)) ∧ rs.length = j ∧ (∀ x r, rs[x]? = some r → H' r = some (.lst (rowV n (M x)))) ∧ rs.Nodup ∧ D ∉ rs ∧ ∀ r ∈ rs, H1 r = none)
    ⟨[], same_new hD, upd_same, rfl, (fun _ _ h => by cases h), .nil, (fun h => nomatch h), (fun _ h => nomatch h)⟩ ?_ ?_
  · rintro j H' hj ⟨rs, s1, eD, el, er, nd, nD, fr⟩
    refine ⟨hw _, ?_⟩
    refine he j H' _ hj s1 fun q H2 s2 hq e2 => ⟨rs.map V.ref, s2 _ _ eD, small1000 (by rw [List.length_map]; omega), rs ++ [q], same_mut (s1.trans s2) hD, ?_, by simp [el], ?_, ?_, ?_, ?_⟩
    · rw [upd_same, List.map_append]
      rfl
    · have qD : q ≠ D := ne_of_none' eD hq
      intro x r hx
      by_cases hxl : x < rs.length
      · rw [List.getElem?_append_left hxl] at hx
        have rD : r ≠ D := fun z => nD (z ▸ List.mem_of_getElem? hx)
        rw [upd_ne rD]
        exact s2 _ _ (er x r hx)
      · rw [List.getElem?_append_right (by omega)] at hx
        cases hz : x - rs.length with
        | zero =>
          rw [hz] at hx
          cases hx
          rw [upd_ne qD]
          have ex : x = j := by omega
          rw [ex]
          exact e2
        | succ z =>
          rw [hz] at hx
          simp at hx
    · refine List.nodup_append.mpr ⟨nd, by simp, fun a ha b hb => ?_⟩
      have e : b = q := by simpa using hb
      subst e
      obtain ⟨x, hx⟩ := List.getElem?_of_mem ha
      exact ne_of_none (er x a hx) hq
    · intro hm
      rcases List.mem_append.mp hm with hm | hm
      · exact nD hm
      · have e : D = q := by simpa using hm
        exact ne_of_none' eD hq e.symm
    · intro r hr
      rcases List.mem_append.mp hr with hr | hr
      · exact fr r hr
      · have e : r = q := by simpa using hr
        subst e
        exact s1.free hq
  · rintro H' ⟨rs, s1, eD, el, er, nd, nD, fr⟩
    exact hd rs H' ⟨s1, ⟨eD, el, er, nd, nD⟩, hD, fr⟩
/-- [test for y in range(n)] -/
theorem lc_rowr {te : TE} {n i : Nat} {vs : List Nat} {σ : L2.St} {H1 : Hp} {D : Addr} {Qd : Hp → Prop} (f : Nat → Bool) (hn : n ≤ 600) (hD : H1 D = none)
    (hw : ∀ y, wipe ((wipe σ vs).set i (some y)) vs = wipe σ vs)
    (he : ∀ x H' Q, x < n → Same H1 H' → (∀ H2, Same H' H2 → Q (.bl (f x)) H2) → te ((wipe σ vs).set i (some (.int (0 + (x : Nat))))) H' Q)
    (hd : ∀ H', Same H1 H' → H' D = some (.lst (rowV n f)) → Qd H') :
    ∃ W : Nat → Nat → Hp → Prop, (∃ m, W 0 m (upd H1 D (.lst []))) ∧ ∀ j m H, W j m H →
      ((Itr 0 n).stop j H ∧ Qd H) ∨ ((Itr 0 n).go j H ∧ ∃ Nx : Hp → Prop, (∀ H', Nx H' → ∃ m', m' < m ∧ W (j + 1) m' H') ∧ ∀ x H', (Itr 0 n).yld j H x H' → gName i x (wipe σ vs) H' fun σ2 H2 => wipe σ2 vs = wipe σ vs ∧ tYes σ2 H2 fun b H3 =>
        if b = true then te σ2 H3 fun y H4 => ∃ acc, H4 D = some (.lst acc) ∧ acc.length < sizeLine ∧ Nx (upd H4 D (.lst (acc ++ [y]))) else Nx H3) := by
  refine lc_range (lo := 0) (n := n) (fun j H' => Same H1 H' ∧ H' D = some (.lst (rowV j f))) ⟨same_new hD, upd_same⟩ ?_ ?_
  · rintro j H' hj ⟨s1, eD⟩
    refine ⟨hw _, ?_⟩
    refine he j H' _ hj s1 fun H2 s2 => ⟨_, s2 _ _ eD, small1000 (by rw [rowV_len]; omega), same_mut (s1.trans s2) hD, ?_⟩
    rw [upd_same]
    exact congrArg (fun l => some (HO.lst l)) rowV_snoc
  · rintro H' ⟨s1, eD⟩
    exact hd H' s1 eD
abbrev s_lcl : Stmt := top 28
def spLC (K : PySem.W.Frag) : Sp := fun vs H Q _ => ∃ (n : Nat) (a : Addr) (prs : List (Nat × Nat)), vs = [.int (n : Int), .ref a] ∧ n ≤ 24 ∧ Dp K H (.ref a) (.list (prs.map cpD)) ∧ ∀ p H', Same H H' → Q (.ref p) H'
section
variable {P : Program} {w : World} {K : PySem.W.Frag} {mg : Str → Option Value} {base : Heap}
theorem sc_lcl : FnScope ["n", "pairs", "below", "mid", "x", "y"] ["n", "pairs"] (defScope s_lcl) := ⟨rfl, rfl, rfl, by decide +kernel, rfl, by decide +kernel, by decide +kernel⟩
theorem ok_lcl {f : Addr} {fd : FuncData} (F : Fun K "_law_closed" "_law_closed" s_lcl f fd) (T : Bl mg) : FnOk P w K mg base CX0 1 f fd ["n", "pairs"] (spLC K) := by
  refine F.ok sc_lcl (fun vs H Q E h => ?_) (fun cdv A outer s H vs Q E hr h => ?_)
  · obtain ⟨n, a, prs, rfl, _⟩ := h
    rfl
  · obtain ⟨n, a, prs, rfl, h24, hp, k⟩ := h
    refine ⟨_,
      (pss_cons (ps_setLc (i := 2) (own := [("x", 4)]) (by rfl) sc_lcl.nd rfl rfl (sw_true rfl rfl rfl (by decide +kernel)) (pi_range1 (by rfl) T.n_range (pa_cons (pv 0) pa_nil)) (blkOk_by (own := [("x", 4)]) (by show blkC ["n", "pairs", "below", "mid", "x", "y"] (defScope s_lcl) _ _ = true; decide +kernel)) (fun _ _ _ _ _ => (pg_name (i := 4) sc_lcl.nd rfl (Or.inr rfl))) (fun _ _ _ _ _ => pts_nil) (fun _ _ _ _ _ => (pe_lc (own := [("y", 5)]) (by rfl) sc_lcl.nd (pi_range1 (by rfl) T.n_range (pa_cons (pv 0) pa_nil)) (blkOk_by (own := [("y", 5)]) (by show blkC ["n", "pairs", "below", "mid", "x", "y"] (relS _ ((defScope s_lcl))) _ _ = true; decide +kernel)) (fun _ _ _ _ _ => (pg_name (i := 5) sc_lcl.nd rfl (Or.inl rfl))) (fun _ _ _ _ _ => pts_nil) (fun _ _ _ _ _ => (pe_or (pe_cmpR op_eq (pv 4) (pv 5) (nomark _)) (pe_or (pe_cmpR op_eq (pv 4) pe_int (nomark _)) (pe_one (pe_cmpR (kinD K (hu65 hr)) (pe_tup (pa_cons (pv 4) (pa_cons (pv 5) pa_nil))) (pv 1) (by rfl)))))))))
      (pss_cons (ps_for PassesOwn.never rfl (pi_range1 (by rfl) T.n_range (pa_cons (pv 0) pa_nil)) (pg_name (i := 3) sc_lcl.nd rfl (Or.inl rfl))
        (pss_one (ps_for PassesOwn.never rfl (pi_range1 (by rfl) T.n_range (pa_cons (pv 0) pa_nil)) (pg_name (i := 4) sc_lcl.nd rfl (Or.inl rfl))
          (pss_one (ps_for PassesOwn.never rfl (pi_range1 (by rfl) T.n_range (pa_cons (pv 0) pa_nil)) (pg_name (i := 5) sc_lcl.nd rfl (Or.inl rfl))
            (pss_one (ps_if (PW.pt (pw_and (pt_val (pe_ix (kix_list K) (pe_ix (kix_list K) (pv 2) (pv 4) (fun _ _ => rfl)) (pv 3) (fun _ _ => rfl))) (pw_and1 (pt_val (pe_ix (kix_list K) (pe_ix (kix_list K) (pv 2) (pv 3) (fun _ _ => rfl)) (pv 5) (fun _ _ => rfl))))))
              (pss_one (ps_asg pe_bl (pg_sub (pe_ix (kix_list K) (pv 2) (pv 4) (fun _ _ => rfl)) (pv 5) set_list)))
              pss_nil)))))))
      (pss_one (ps_ret (pv 2)))))
      , ?_⟩
    walk_at "r"
    intro D hD
    refine lc_matr (n := n) (fun x y => decide (V.int ((0 : Int) + (x : Nat)) = V.int (0 + (y : Nat))) || (decide (V.int ((0 : Int) + (x : Nat)) = V.int 0) || (prs.map cpD).any fun z => PyData.eqv z (.tuple [.int (0 + (x : Nat)), .int (0 + (y : Nat))]))) (by omega) hD (fun _ => rfl) (fun x H1 Q1 hx s1 k1 => ?_) (fun rs H1 nm => ?_)
    · walk_at "r"
      intro D2 hD2
      refine lc_rowr (n := n) _ (by omega) hD2 (fun _ => rfl) (fun y H2 Q2 hy s2 k2 => ?_) (fun H2 s2 e2 => k1 D2 H2 s2 hD2 e2)
      walk_at "r"
      refine iteB (fun c1 => ?_) (fun c1 => ?_)
      · refine (congrArg (fun b => Q2 (V.bl b) H2) ?_).mpr (k2 H2 (Same.refl _))
        rw [c1]
        rfl
      · walk_at "r"
        refine iteB (fun c2 => ?_) (fun c2 => ?_)
        · refine (congrArg (fun b => Q2 (V.bl b) H2) ?_).mpr (k2 H2 (Same.refl _))
          rw [c1, c2]
          rfl
        · walk_at "r"
          refine ⟨(by show 2 ≤ sizeLine; decide), fun p hp' => ?_⟩
          refine ⟨_, rfl, _, _, .tup (SqT.of upd_same) (.cons (.int _) (.cons (.int _) .nil)), Dp.same ((s1.trans s2).trans (same_new hp')) _ _ hp, ?_, cpDs_shaped prs, ?_⟩
          · simp [SeqAt.shaped, PyData.canLay0, PyData.canLayAll0, PyData.depth, PyData.depthAll]
          · refine (congrArg (fun b => Q2 (V.bl b) _) ?_).mpr (k2 _ (same_new hp'))
            rw [c1, c2]
            rfl
    · walk_at "r"
      generalize (fun x y : Nat => decide (V.int ((0 : Int) + (x : Nat)) = V.int (0 + (y : Nat))) || (decide (V.int ((0 : Int) + (x : Nat)) = V.int 0) || (prs.map cpD).any fun z => PyData.eqv z (.tuple [.int (0 + (x : Nat)), .int (0 + (y : Nat))]))) = M0 at nm
      have c0 : ∀ z : Nat, (0 : Int) + (z : Nat) = ((z : Nat) : Int) := fun z => by omega
      refine for_range (lo := 0) (n := n) (fun i σ H2 => ∃ (v3 v4 v5 : Option V) (M : Nat → Nat → Bool) (rs : List Addr), σ = [some (.int (n : Int)), some (.ref a), some (.ref D), v3, v4, v5] ∧ NewM H H2 D n M rs) ⟨none, none, none, _, rs, rfl, nm⟩ ?_ ?_
      · rintro mid σ H2 hmid ⟨v3, v4, v5, M2, rs2, rfl, m2⟩
        walk_at "r"
        refine for_range (lo := 0) (n := n) (fun i σ H3 => ∃ (v4 v5 : Option V) (M : Nat → Nat → Bool) (rs : List Addr), σ = [some (.int (n : Int)), some (.ref a), some (.ref D), some (.int ((0 : Int) + mid)), v4, v5] ∧ NewM H H3 D n M rs) ⟨v4, v5, _, rs2, rfl, m2⟩ ?_ ?_
        · rintro x σ H3 hx ⟨v4, v5, M3, rs3, rfl, m3⟩
          walk_at "r"
          refine for_range (lo := 0) (n := n) (fun i σ H4 => ∃ (v5 : Option V) (M : Nat → Nat → Bool) (rs : List Addr), σ = [some (.int (n : Int)), some (.ref a), some (.ref D), some (.int ((0 : Int) + mid)), some (.int ((0 : Int) + x)), v5] ∧ NewM H H4 D n M rs) ⟨v5, _, rs3, rfl, m3⟩ ?_ ?_
          · rintro y σ H4 hy ⟨v5, M4, rs4, rfl, m4⟩
            obtain ⟨r, hr4, har, her⟩ := m4.mat.get hx
            obtain ⟨r2, hr2, har2, her2⟩ := m4.mat.get hmid
            have stay : ∃ (v5 : Option V) (M : Nat → Nat → Bool) (rs : List Addr), [some (V.int (n : Int)), some (.ref a), some (.ref D), some (.int ((0 : Int) + mid)), some (.int ((0 : Int) + x)), some (.int ((0 : Int) + y))] = [some (V.int (n : Int)), some (.ref a), some (.ref D), some (.int ((0 : Int) + mid)), some (.int ((0 : Int) + x)), v5] ∧ NewM H H4 D n M rs := ⟨_, _, _, rfl, m4⟩
            walk_at "r"
            refine ⟨_, _, _, _, rfl, rfl, SqL.of m4.mat.top, (by rw [c0]; exact har), _, rfl, _, _, _, _, rfl, rfl, SqL.of her, (by rw [c0]; exact rowV_at hmid), _, rfl, ?_⟩
            refine iteB (fun c => ?_) (fun c => stay)
            refine ⟨_, rfl, _, rfl, _, _, _, _, rfl, rfl, SqL.of m4.mat.top, (by rw [c0]; exact har2), _, rfl, _, _, _, _, rfl, rfl, SqL.of her2, (by rw [c0]; exact rowV_at hy), _, rfl, ?_⟩
            refine iteB (fun c2 => ?_) (fun c2 => stay)
            walk_at "r"
            refine ⟨_, _, _, _, rfl, rfl, SqL.of m4.mat.top, (by rw [c0]; exact har), _, rfl, _, _, _, _, rfl, rfl, her, (by rw [c0]; exact ixN_nat (by rw [rowV_len]; exact hy)), ?_⟩
            exact ⟨_, _, rs4, rfl, same_mut m4.same (m4.frees r (List.mem_of_getElem? hr4)), m4.mat.put hr4 hy, m4.free, m4.frees⟩
          · rintro σ H4 ⟨v5, M4, rs4, rfl, m4⟩
            exact ⟨_, _, _, _, rfl, m4⟩
        · rintro σ H3 ⟨v4, v5, M3, rs3, rfl, m3⟩
          exact ⟨_, _, _, _, _, rfl, m3⟩
      · rintro σ H2 ⟨v3, v4, v5, M2, rs2, rfl, m2⟩
        walk_at "r"
        exact k D H2 m2.same
end
end Z

set_option Elab.async false
set_option linter.all false
set_option maxRecDepth 100000
set_option maxHeartbeats 1200000
namespace Z
open PySem L2
open PySem.Spec PyProof.Rows
local macro_rules | `(tactic| walk_at "side") => `(tactic| first | omega | (unfold CMul; omega) | (unfold CDiv; omega) | (unfold CDivN; omega) | (unfold CPow; omega) | decide)
local macro_rules | `(tactic| walk_at "lst") => `(tactic| first | exact SqL.of (by assumption) | exact SqL.of upd_same | assumption | exact upd_same)
local macro_rules | `(tactic| walk_at "r1") => `(tactic| first | refine ⟨_, rfl, ?_⟩ | refine ⟨_, _, rfl, rfl, ?_⟩ | refine Or.inl ⟨_, rfl, ?_⟩ | refine And.intro rfl ?_ | refine ⟨_, _, _, _, rfl, rfl, by walk_at "lst", rfl, ?_⟩ | refine ⟨_, _, rfl, Or.inl (by walk_at "lst"), ?_⟩ | refine And.intro (by walk_at "side") ?_)
local macro_rules | `(tactic| walk_at "r") => `(tactic| repeat walk_at "r1")
abbrev s_len : Stmt := inClass (top 15) 1
abbrev s_eq : Stmt := inClass (top 15) 2
abbrev s_atm : Stmt := inClass (top 15) 4
abbrev s_cvs : Stmt := inClass (top 15) 5
abbrev s_abv : Stmt := inClass (top 15) 6
abbrev s_blw : Stmt := inClass (top 15) 7
/-- what isinstance and the methods ask of the class -/
structure OrI (K : PySem.W.Frag) (mg : Str → Option Value) (C : Addr) : Prop where
  oc : OrC K C
  g : mg "Order" = some (.ref C)
  ha : PySem.W.findIn K (.ref C) "__class__" = some (some (.builtin "object.__class__"))
  hn : PySem.W.specialIn K (.builtin "object.__class__") "__get__" = some (some (.builtin "getset_descriptor.__get__"))
  ht : PySem.W.takesIn K (.builtin "object.__class__") = some true
  hm : PySem.W.mroIn K C (.type "object") = some true
  ki : PySem.W.kitOne K (.ref C) (.ref C) = some true
theorem inV_nats {y : Nat} : ∀ l : List Nat, inV (.int (y : Int)) (natsV l) = decide (y ∈ l)
  | [] => rfl
  | x :: l => by
    have ih := inV_nats (y := y) l
    unfold inV at ih ⊢
    unfold natsV at ih ⊢
    rw [List.map_cons, List.any_cons, ih]
    have e : eqV (.int (x : Int)) (.int (y : Int)) = decide (y = x) := by
      refine bool_ext ?_
      show (decide ((x : Int) = (y : Int))) = true ↔ _
      rw [decide_eq_true_eq, decide_eq_true_eq]
      omega
    rw [e, Bool.eq_iff_iff]
    simp
theorem natsV_flat (l : List Nat) : (natsV l).all flatV = true := by
  unfold natsV
  rw [List.all_map, List.all_eq_true]
  intro x _
  rfl
theorem PairsAt.dpAll {K : PySem.W.Frag} {H : Hp} {rs : List Addr} {l : List (Nat × Nat)} (t : PairsAt H rs l) : DpAll K H (rs.map V.ref) (l.map cpD) := by
  induction rs generalizing l with
  | nil =>
    cases l with
    | nil => exact .nil
    | cons _ _ => cases t.1
  | cons r rs ih =>
    cases l with
    | nil => cases t.1
    | cons z l =>
      exact .cons (.tup (SqT.of (t.2 0 r z rfl rfl)) (.cons (.int _) (.cons (.int _) .nil))) (ih ⟨by have := t.1; simpa using this, fun i r q a b => t.2 (i + 1) r q (by simpa using a) (by simpa using b)⟩)
theorem OrdF.edges {K : PySem.W.Frag} {H : Hp} {o C dx : Addr} {n : Nat} {M c : Nat → Nat → Bool} (d : OrdF H o C dx n M c) : ∃ fs pd, H o = some (.ins C dx fs) ∧ fs.lookup ("edges" : Str) = some (.ref pd) ∧ fs.lookup ("n" : Str) = some (.int (n : Int)) ∧ Dp K H (.ref pd) (.tuple ((edgesL n c).map cpD)) := by
  obtain ⟨pa, pb, pc, pe, pd, ra, rb, rc, rd, h, _, _, _, _, d1, d2⟩ := d.ex
  refine ⟨_, pd, h, lkY, ?_, .tup (SqT.of d1) d2.dpAll⟩
  exact lkN (by decide +kernel) (lkN (by decide +kernel) (lkN (by decide +kernel) (lkN (by decide +kernel) (lkN (by decide +kernel) lkY))))
theorem OrdF.rows {H : Hp} {o C dx : Addr} {n : Nat} {M c : Nat → Nat → Bool} (d : OrdF H o C dx n M c) : ∃ fs pa pb pc ra rb rc, H o = some (.ins C dx fs) ∧ fs.lookup ("_above" : Str) = some (.ref pa) ∧ fs.lookup ("_below" : Str) = some (.ref pb) ∧ fs.lookup ("_covers" : Str) = some (.ref pc) ∧
    (H pa = some (.tup (ra.map V.ref)) ∧ ra.length = n ∧ TupsAt H ra fun x => fl n (M x)) ∧ (H pb = some (.tup (rb.map V.ref)) ∧ rb.length = n ∧ TupsAt H rb fun y => fl n fun x => M x y) ∧ (H pc = some (.tup (rc.map V.ref)) ∧ rc.length = n ∧ TupsAt H rc fun x => fl n (c x)) := by
  obtain ⟨pa, pb, pc, pe, pd, ra, rb, rc, rd, h, a, b, c, _⟩ := d.ex
  refine ⟨_, pa, pb, pc, ra, rb, rc, h, ?_, ?_, ?_, a, b, c⟩
  · exact lkN (by decide +kernel) (lkN (by decide +kernel) (lkN (by decide +kernel) (lkN (by decide +kernel) lkY)))
  · exact lkN (by decide +kernel) (lkN (by decide +kernel) (lkN (by decide +kernel) lkY))
  · exact lkN (by decide +kernel) (lkN (by decide +kernel) lkY)
theorem tups_at {H : Hp} {rs : List Addr} {f : Nat → List Nat} {n x : Nat} (e : rs.length = n) (t : TupsAt H rs f) (hx : x < n) : ∃ r, atI (rs.map V.ref) (x : Int) = some (.ref r) ∧ H r = some (.tup (natsV (f x))) := by
  have hl : x < rs.length := by omega
  have ex : rs[x]? = some rs[x] := by simp [hl]
  exact ⟨rs[x], atI_nat (by rw [List.getElem?_map, ex]; rfl), t x _ ex⟩
def spLenO (C : Addr) : Sp := fun vs H Q _ => ∃ (o dx : Addr) (n : Nat) (M c : Nat → Nat → Bool), vs = [.ref o] ∧ OrdF H o C dx n M c ∧ Q (.int (n : Int)) H
def spCvs (C : Addr) : Sp := fun vs H Q _ => ∃ (o dx : Addr) (n x : Nat) (M c : Nat → Nat → Bool), vs = [.ref o, .int (x : Int)] ∧ x < n ∧ OrdF H o C dx n M c ∧ ∀ r, H r = some (.tup (natsV (fl n (c x)))) → Q (.ref r) H
def spAbv (C : Addr) : Sp := fun vs H Q _ => ∃ (o dx : Addr) (n x : Nat) (M c : Nat → Nat → Bool), vs = [.ref o, .int (x : Int)] ∧ x < n ∧ OrdF H o C dx n M c ∧ ∀ r, H r = some (.tup (natsV (fl n (M x)))) → Q (.ref r) H
def spBlw (C : Addr) : Sp := fun vs H Q _ => ∃ (o dx : Addr) (n x : Nat) (M c : Nat → Nat → Bool), vs = [.ref o, .int (x : Int)] ∧ x < n ∧ OrdF H o C dx n M c ∧ ∀ r, H r = some (.tup (natsV (fl n fun z => M z x))) → Q (.ref r) H
def spAtm (C : Addr) : Sp := fun vs H Q _ => ∃ (o dx : Addr) (n x y : Nat) (M c : Nat → Nat → Bool), vs = [.ref o, .int (x : Int), .int (y : Int)] ∧ x < n ∧ y < n ∧ OrdF H o C dx n M c ∧ Q (.bl (decide (x = y) || M x y)) H
def spEqO (C : Addr) : Sp := fun vs H Q _ => ∃ (o dx o2 dx2 : Addr) (n n2 : Nat) (M c M2 c2 : Nat → Nat → Bool), vs = [.ref o, .ref o2] ∧ OrdF H o C dx n M c ∧ OrdF H o2 C dx2 n2 M2 c2 ∧ Q (.bl (decide (n = n2) && PyData.eqv (.tuple ((edgesL n c).map cpD)) (.tuple ((edgesL n2 c2).map cpD)))) H
theorem cpDt_shaped (zs : List (Nat × Nat)) : SeqAt.shaped (.tuple (zs.map cpD)) = true := by
  have h1 := cpDs_depth zs
  have h2 : PyData.depth (.tuple (zs.map cpD)) ≤ 64 := by
    simp only [PyData.depth]
    omega
  show (PyData.canLay0 (.tuple (zs.map cpD)) && decide (PyData.depth (.tuple (zs.map cpD)) ≤ 64)) = true
  rw [Bool.and_eq_true]
  exact ⟨by simp only [PyData.canLay0]; exact cpDs_lay zs, decide_eq_true h2⟩
theorem ifT {b : Bool} {A B : Prop} (h : b = true) (a : A) : if b = true then A else B := by
  subst h
  exact iteT a
theorem ifF {b : Bool} {A B : Prop} (h : b = false) (a : B) : if b = true then A else B := by
  subst h
  exact iteF a
section
variable {P : Program} {w : World} {K : PySem.W.Frag} {mg : Str → Option Value} {base : Heap}
theorem sc_len : FnScope ["self"] ["self"] (defScope s_len) := ⟨rfl, rfl, rfl, by decide +kernel, rfl, by decide +kernel, by decide +kernel⟩
theorem sc_eq : FnScope ["self", "other"] ["self", "other"] (defScope s_eq) := ⟨rfl, rfl, rfl, by decide +kernel, rfl, by decide +kernel, by decide +kernel⟩
theorem sc_atm : FnScope ["self", "one", "other"] ["self", "one", "other"] (defScope s_atm) := ⟨rfl, rfl, rfl, by decide +kernel, rfl, by decide +kernel, by decide +kernel⟩
theorem sc_cvs : FnScope ["self", "state"] ["self", "state"] (defScope s_cvs) := ⟨rfl, rfl, rfl, by decide +kernel, rfl, by decide +kernel, by decide +kernel⟩
theorem sc_abv : FnScope ["self", "state"] ["self", "state"] (defScope s_abv) := ⟨rfl, rfl, rfl, by decide +kernel, rfl, by decide +kernel, by decide +kernel⟩
theorem sc_blw : FnScope ["self", "state"] ["self", "state"] (defScope s_blw) := ⟨rfl, rfl, rfl, by decide +kernel, rfl, by decide +kernel, by decide +kernel⟩
theorem ok_len {C f : Addr} {fd : FuncData} (F : Fun K "__len__" "Order.__len__" s_len f fd) (T : Bl mg) (O : OrI K mg C) : FnOk P w K mg base CX0 1 f fd ["self"] (spLenO C) := by
  refine F.ok sc_len (fun vs H Q E h => ?_) (fun cdv A outer s H vs Q E hr h => ?_)
  · obtain ⟨o, dx, n, M, c, rfl, _⟩ := h
    rfl
  · obtain ⟨o, dx, n, M, c, rfl, d, k⟩ := h
    obtain ⟨fs, pa, pb, pc, ra, rb, rc, ho, _, _, lc, _, _, c1, c2, c3⟩ := d.rows
    refine ⟨_,
      (pss_one (ps_ret (pe_callB (klen K) (by rfl) T.n_len PySem.boot_len (pa_cons (kfld K (pv 0) rfl) pa_nil))))
      , ?_⟩
    walk_at "r"
    refine ⟨o, C, dx, fs, _, rfl, ho, O.oc.cl, O.oc.a4, lc, ?_⟩
    refine ⟨pc, _, rfl, .inr (SqT.of c1), ?_⟩
    rw [List.length_map, c2]
    exact k
theorem ok_cvs {C f : Addr} {fd : FuncData} (F : Fun K "covers" "Order.covers" s_cvs f fd) (T : Bl mg) (O : OrI K mg C) : FnOk P w K mg base CX0 1 f fd ["self", "state"] (spCvs C) := by
  refine F.ok sc_cvs (fun vs H Q E h => ?_) (fun cdv A outer s H vs Q E hr h => ?_)
  · obtain ⟨o, dx, n, x, M, c, rfl, _⟩ := h
    rfl
  · obtain ⟨o, dx, n, x, M, c, rfl, hx, d, k⟩ := h
    obtain ⟨fs, pa, pb, pc, ra, rb, rc, ho, _, _, lc, _, _, c1, c2, c3⟩ := d.rows
    obtain ⟨r, er, hr2⟩ := tups_at c2 c3 hx
    refine ⟨_,
      (pss_one (ps_ret (pe_ix (kix_tup K) (kfld K (pv 0) rfl) (pv 1) (fun _ _ => rfl))))
      , ?_⟩
    walk_at "r"
    exact ⟨o, C, dx, fs, _, rfl, ho, O.oc.cl, O.oc.a4, lc, _, rfl, _, _, _, _, rfl, rfl, SqT.of c1, er, k r hr2⟩
theorem ok_abv {C f : Addr} {fd : FuncData} (F : Fun K "above" "Order.above" s_abv f fd) (T : Bl mg) (O : OrI K mg C) : FnOk P w K mg base CX0 1 f fd ["self", "state"] (spAbv C) := by
  refine F.ok sc_abv (fun vs H Q E h => ?_) (fun cdv A outer s H vs Q E hr h => ?_)
  · obtain ⟨o, dx, n, x, M, c, rfl, _⟩ := h
    rfl
  · obtain ⟨o, dx, n, x, M, c, rfl, hx, d, k⟩ := h
    obtain ⟨fs, pa, pb, pc, ra, rb, rc, ho, lc, _, _, ⟨c1, c2, c3⟩, _⟩ := d.rows
    obtain ⟨r, er, hr2⟩ := tups_at c2 c3 hx
    refine ⟨_,
      (pss_one (ps_ret (pe_ix (kix_tup K) (kfld K (pv 0) rfl) (pv 1) (fun _ _ => rfl))))
      , ?_⟩
    walk_at "r"
    exact ⟨o, C, dx, fs, _, rfl, ho, O.oc.cl, O.oc.a2, lc, _, rfl, _, _, _, _, rfl, rfl, SqT.of c1, er, k r hr2⟩
theorem ok_blw {C f : Addr} {fd : FuncData} (F : Fun K "below" "Order.below" s_blw f fd) (T : Bl mg) (O : OrI K mg C) : FnOk P w K mg base CX0 1 f fd ["self", "state"] (spBlw C) := by
  refine F.ok sc_blw (fun vs H Q E h => ?_) (fun cdv A outer s H vs Q E hr h => ?_)
  · obtain ⟨o, dx, n, x, M, c, rfl, _⟩ := h
    rfl
  · obtain ⟨o, dx, n, x, M, c, rfl, hx, d, k⟩ := h
    obtain ⟨fs, pa, pb, pc, ra, rb, rc, ho, _, lc, _, _, ⟨c1, c2, c3⟩, _⟩ := d.rows
    obtain ⟨r, er, hr2⟩ := tups_at c2 c3 hx
    refine ⟨_,
      (pss_one (ps_ret (pe_ix (kix_tup K) (kfld K (pv 0) rfl) (pv 1) (fun _ _ => rfl))))
      , ?_⟩
    walk_at "r"
    exact ⟨o, C, dx, fs, _, rfl, ho, O.oc.cl, O.oc.a3, lc, _, rfl, _, _, _, _, rfl, rfl, SqT.of c1, er, k r hr2⟩
theorem ok_atm {C f : Addr} {fd : FuncData} (F : Fun K "at_most" "Order.at_most" s_atm f fd) (T : Bl mg) (O : OrI K mg C) : FnOk P w K mg base CX0 1 f fd ["self", "one", "other"] (spAtm C) := by
  refine F.ok sc_atm (fun vs H Q E h => ?_) (fun cdv A outer s H vs Q E hr h => ?_)
  · obtain ⟨o, dx, n, x, y, M, c, rfl, _⟩ := h
    rfl
  · obtain ⟨o, dx, n, x, y, M, c, rfl, hx, hy, d, k⟩ := h
    obtain ⟨fs, pa, pb, pc, ra, rb, rc, ho, lc, _, _, ⟨c1, c2, c3⟩, _⟩ := d.rows
    obtain ⟨r, er, hr2⟩ := tups_at c2 c3 hx
    refine ⟨_,
      (pss_one (ps_ret (pe_or (pe_cmpR op_eq (pv 1) (pv 2) (nomark _)) (pe_one (pe_cmpR (kin_seq K) (pv 2) (pe_ix (kix_tup K) (kfld K (pv 0) rfl) (pv 1) (fun _ _ => rfl)) (by rfl))))))
      , ?_⟩
    walk_at "r"
    refine iteB (fun h1 => ?_) (fun h1 => ?_)
    · have e : x = y := by
        have := dec_i_t h1
        omega
      rw [decide_eq_true e] at k
      exact k
    · have e : ¬ x = y := by
        have := dec_i_f h1
        omega
      rw [decide_eq_false e] at k
      refine ⟨_, rfl, _, rfl, o, C, dx, fs, _, rfl, ho, O.oc.cl, O.oc.a2, lc, _, rfl, _, _, _, _, rfl, rfl, SqT.of c1, er, r, _, rfl, .inr (SqT.of hr2), rfl, natsV_flat _, ?_⟩
      have q : inV (.int (y : Int)) (natsV (fl n (M x))) = M x y := by
        rw [inV_nats]
        refine bool_ext ?_
        rw [decide_eq_true_eq, fl_mem]
        exact ⟨fun h => h.2, fun h => ⟨hy, h⟩⟩
      refine (congrArg (fun b => Q (V.bl b) H) ?_).mpr k
      show (if false = true then _ else inV (.int (y : Int)) (natsV (fl n (M x)))) = _
      rw [if_neg (by decide), q]
      rfl
theorem ok_eq {C f : Addr} {fd : FuncData} (F : Fun K "__eq__" "Order.__eq__" s_eq f fd) (T : Bl mg) (O : OrI K mg C) : FnOk P w K mg base CX0 1 f fd ["self", "other"] (spEqO C) := by
  refine F.ok sc_eq (fun vs H Q E h => ?_) (fun cdv A outer s H vs Q E hr h => ?_)
  · obtain ⟨o, dx, o2, dx2, n, n2, M, c, M2, c2, rfl, _⟩ := h
    rfl
  · obtain ⟨o, dx, o2, dx2, n, n2, M, c, M2, c2, rfl, d, d2, k⟩ := h
    obtain ⟨fs, pd, ho, l1, l2, dp⟩ := d.edges (K := K)
    obtain ⟨gs, qd, ho2, m1, m2, dq⟩ := d2.edges (K := K)
    refine ⟨_,
      (pss_one (ps_ret (pe_and (pe_callB (kisi K) (by rfl) T.n_isinstance (by decide +kernel) (pa_cons (pv 1) (pa_cons (pe_glob (v := .ref C) (by rfl) O.g rfl) pa_nil))) (pe_and (pe_cmpR op_eq (kfld K (pv 0) rfl) (kfld K (pv 1) rfl) (nomark _)) (pe_one (pe_cmpR (keqD K hr.units) (kfld K (pv 0) rfl) (kfld K (pv 1) rfl) (nomark _)))))))
      , ?_⟩
    walk_at "r"
    refine ⟨_, _, _, _, _, rfl, .own C, .base (.ins ho2 O.oc.cl O.ha O.hn O.ht O.hm), O.ki, ?_⟩
    refine ⟨_, rfl, ?_⟩
    refine iteT ?_
    refine ⟨_, rfl, o, C, dx, fs, _, rfl, ho, O.oc.cl, O.oc.a1, l2, _, rfl, o2, C, dx2, gs, _, rfl, ho2, O.oc.cl, O.oc.a1, m2, rfl, _, rfl, ?_⟩
    by_cases e : n = n2
    · rw [decide_eq_true e] at k
      have e2 : decide (V.int (n : Int) = V.int (n2 : Int)) = true := by
        rw [dec_i]
        exact decide_eq_true (by omega)
      refine ifT e2 ?_
      refine ⟨_, rfl, o, C, dx, fs, _, rfl, ho, O.oc.cl, O.oc.a6, l1, _, rfl, o2, C, dx2, gs, _, rfl, ho2, O.oc.cl, O.oc.a6, m1, _, _, dp, dq, cpDt_shaped _, cpDt_shaped _, ?_⟩
      exact k
    · rw [decide_eq_false e] at k
      have e2 : decide (V.int (n : Int) = V.int (n2 : Int)) = false := by
        rw [dec_i]
        exact decide_eq_false (by omega)
      rw [e2]
      exact iteF k
end
end Z

set_option Elab.async false
set_option linter.all false
set_option maxRecDepth 100000
set_option maxHeartbeats 1200000
namespace Z
open PySem L2
local macro_rules | `(tactic| walk_at "side") => `(tactic| first | omega | (unfold CMul; omega) | (unfold CDiv; omega) | (unfold CDivN; omega) | (unfold CPow; omega) | decide)
local macro_rules | `(tactic| walk_at "lst") => `(tactic| first | exact SqL.of (by assumption) | exact SqL.of upd_same | assumption | exact upd_same)
local macro_rules | `(tactic| walk_at "r1") => `(tactic| first | refine ⟨_, rfl, ?_⟩ | refine ⟨_, _, rfl, rfl, ?_⟩ | refine Or.inl ⟨_, rfl, ?_⟩ | refine And.intro rfl ?_ | refine ⟨_, _, _, _, rfl, rfl, by walk_at "lst", rfl, ?_⟩ | refine ⟨_, _, rfl, Or.inl (by walk_at "lst"), ?_⟩ | refine And.intro (by walk_at "side") ?_)
local macro_rules | `(tactic| walk_at "r") => `(tactic| repeat walk_at "r1")
theorem NewM.congr {H H' : Hp} {p : Addr} {n : Nat} {M M' : Nat → Nat → Bool} {rs : List Addr} (m : NewM H H' p n M rs) (h : ∀ x y, x < n → y < n → M x y = M' x y) : NewM H H' p n M' rs := ⟨m.same, m.mat.congr h, m.free, m.frees⟩
theorem eqv_cp (z : Nat × Nat) (x y : Nat) : PyData.eqv (cpD z) (.tuple [.int (0 + (x : Nat)), .int (0 + (y : Nat))]) = decide ((x, y) = z) := by
  obtain ⟨a, b⟩ := z
  refine bool_ext ?_
  simp only [cpD, PyData.eqv, PyData.eqvAll]
  simp
  omega
theorem refM_is (prs : List (Nat × Nat)) (x y : Nat) : (decide (V.int ((0 : Int) + (x : Nat)) = V.int (0 + (y : Nat))) || (decide (V.int ((0 : Int) + (x : Nat)) = V.int 0) || (prs.map cpD).any fun z => PyData.eqv z (.tuple [.int (0 + (x : Nat)), .int (0 + (y : Nat))]))) = refM prs x y := by
  have e1 : decide (V.int ((0 : Int) + (x : Nat)) = V.int (0 + (y : Nat))) = decide (x = y) := by
    rw [dec_i]
    refine bool_ext ?_
    rw [decide_eq_true_eq, decide_eq_true_eq]
    omega
  have e2 : decide (V.int ((0 : Int) + (x : Nat)) = V.int 0) = decide (x = 0) := by
    rw [dec_i]
    refine bool_ext ?_
    rw [decide_eq_true_eq, decide_eq_true_eq]
    omega
  have e3 : ((prs.map cpD).any fun z => PyData.eqv z (.tuple [.int (0 + (x : Nat)), .int (0 + (y : Nat))])) = decide ((x, y) ∈ prs) := by
    refine bool_ext ?_
    rw [List.any_map, List.any_eq_true, decide_eq_true_eq]
    constructor
    · rintro ⟨z, hz, h⟩
      have h : PyData.eqv (cpD z) (.tuple [.int (0 + (x : Nat)), .int (0 + (y : Nat))]) = true := h
      rw [eqv_cp] at h
      rw [of_decide_eq_true h]
      exact hz
    · intro h
      refine ⟨(x, y), h, ?_⟩
      show PyData.eqv (cpD (x, y)) (.tuple [.int (0 + (x : Nat)), .int (0 + (y : Nat))]) = true
      rw [eqv_cp]
      exact decide_eq_true rfl
  unfold refM
  rw [e1, e2, e3]
def rowI (W : Nat → Nat → Bool) (k x a b : Nat) : Bool := if a < x then stepM W k a b else W a b
def celI (W : Nat → Nat → Bool) (k x y a b : Nat) : Bool := if a < x ∨ (a = x ∧ b < y) then stepM W k a b else W a b
theorem step_col {W : Nat → Nat → Bool} {k a : Nat} : stepM W k a k = W a k := by
  unfold stepM
  cases W a k <;> simp
theorem step_row {W : Nat → Nat → Bool} {k b : Nat} : stepM W k k b = W k b := by
  unfold stepM
  cases W k b <;> simp
theorem celI_col {W : Nat → Nat → Bool} {k x y a : Nat} : celI W k x y a k = W a k := by
  unfold celI
  rw [step_col]
  split <;> rfl
theorem celI_row {W : Nat → Nat → Bool} {k x y b : Nat} : celI W k x y k b = W k b := by
  unfold celI
  rw [step_row]
  split <;> rfl
theorem celI_zero {W : Nat → Nat → Bool} {k x a b : Nat} : rowI W k x a b = celI W k x 0 a b := by
  unfold rowI celI
  by_cases h : a < x
  · rw [if_pos h, if_pos (.inl h)]
  · rw [if_neg h, if_neg (by omega)]
theorem celI_last {W : Nat → Nat → Bool} {k x n a b : Nat} (hb : b < n) : celI W k x n a b = rowI W k (x + 1) a b := by
  unfold rowI celI
  by_cases h : a < x + 1
  · rw [if_pos h, if_pos (by omega)]
  · rw [if_neg h, if_neg (by omega)]
theorem celI_set {W : Nat → Nat → Bool} {k x y a b : Nat} (h : W x k = true ∧ W k y = true) : setM (celI W k x y) x y true a b = celI W k x (y + 1) a b := by
  unfold setM celI
  by_cases ha : a = x
  · subst ha
    rw [if_pos rfl]
    by_cases hb : b = y
    · subst hb
      rw [if_pos rfl, if_pos (by omega)]
      unfold stepM
      rw [h.1, h.2]
      simp
    · rw [if_neg hb]
      by_cases hl : b < y
      · rw [if_pos (by omega), if_pos (by omega)]
      · rw [if_neg (by omega), if_neg (by omega)]
  · rw [if_neg ha]
    by_cases hl : a < x
    · rw [if_pos (.inl hl), if_pos (.inl hl)]
    · rw [if_neg (by omega), if_neg (by omega)]
theorem celI_stay {W : Nat → Nat → Bool} {k x y a b : Nat} (h : ¬ (W x k = true ∧ W k y = true)) : celI W k x y a b = celI W k x (y + 1) a b := by
  unfold celI
  by_cases ha : a = x ∧ b = y
  · obtain ⟨rfl, rfl⟩ := ha
    rw [if_neg (by omega), if_pos (by omega)]
    unfold stepM
    have e : (W a k && W k b) = false := by
      cases q : W a k && W k b with
      | false => rfl
      | true =>
        rw [Bool.and_eq_true] at q
        exact absurd q h
    rw [e, Bool.or_false]
  · by_cases hl : a < x ∨ (a = x ∧ b < y)
    · rw [if_pos hl, if_pos (by omega)]
    · rw [if_neg hl, if_neg (by omega)]
abbrev s_lcl2 : Stmt := top 28
def spLC2 (K : PySem.W.Frag) : Sp := fun vs H Q _ => ∃ (n : Nat) (a : Addr) (prs : List (Nat × Nat)), vs = [.int (n : Int), .ref a] ∧ n ≤ 24 ∧ Dp K H (.ref a) (.list (prs.map cpD)) ∧ ∀ p rs H', NewM H H' p n (wM (refM prs) n) rs → Q (.ref p) H'
section
variable {P : Program} {w : World} {K : PySem.W.Frag} {mg : Str → Option Value} {base : Heap}
theorem sc_lcl2 : FnScope ["n", "pairs", "below", "mid", "x", "y"] ["n", "pairs"] (defScope s_lcl2) := ⟨rfl, rfl, rfl, by decide +kernel, rfl, by decide +kernel, by decide +kernel⟩
theorem ok_lcl2 {f : Addr} {fd : FuncData} (F : Fun K "_law_closed" "_law_closed" s_lcl2 f fd) (T : Bl mg) : FnOk P w K mg base CX0 1 f fd ["n", "pairs"] (spLC2 K) := by
  refine F.ok sc_lcl2 (fun vs H Q E h => ?_) (fun cdv A outer s H vs Q E hr h => ?_)
  · obtain ⟨n, a, prs, rfl, _⟩ := h
    rfl
  · obtain ⟨n, a, prs, rfl, h24, hp, k⟩ := h
    refine ⟨_,
      (pss_cons (ps_setLc (i := 2) (own := [("x", 4)]) (by rfl) sc_lcl2.nd rfl rfl (sw_true rfl rfl rfl (by decide +kernel)) (pi_range1 (by rfl) T.n_range (pa_cons (pv 0) pa_nil)) (blkOk_by (own := [("x", 4)]) (by show blkC ["n", "pairs", "below", "mid", "x", "y"] (defScope s_lcl2) _ _ = true; decide +kernel)) (fun _ _ _ _ _ => (pg_name (i := 4) sc_lcl2.nd rfl (Or.inr rfl))) (fun _ _ _ _ _ => pts_nil) (fun _ _ _ _ _ => (pe_lc (own := [("y", 5)]) (by rfl) sc_lcl2.nd (pi_range1 (by rfl) T.n_range (pa_cons (pv 0) pa_nil)) (blkOk_by (own := [("y", 5)]) (by show blkC ["n", "pairs", "below", "mid", "x", "y"] (relS _ ((defScope s_lcl2))) _ _ = true; decide +kernel)) (fun _ _ _ _ _ => (pg_name (i := 5) sc_lcl2.nd rfl (Or.inl rfl))) (fun _ _ _ _ _ => pts_nil) (fun _ _ _ _ _ => (pe_or (pe_cmpR op_eq (pv 4) (pv 5) (nomark _)) (pe_or (pe_cmpR op_eq (pv 4) pe_int (nomark _)) (pe_one (pe_cmpR (kinD K (hu65 hr)) (pe_tup (pa_cons (pv 4) (pa_cons (pv 5) pa_nil))) (pv 1) (by rfl)))))))))
      (pss_cons (ps_for PassesOwn.never rfl (pi_range1 (by rfl) T.n_range (pa_cons (pv 0) pa_nil)) (pg_name (i := 3) sc_lcl2.nd rfl (Or.inl rfl))
        (pss_one (ps_for PassesOwn.never rfl (pi_range1 (by rfl) T.n_range (pa_cons (pv 0) pa_nil)) (pg_name (i := 4) sc_lcl2.nd rfl (Or.inl rfl))
          (pss_one (ps_for PassesOwn.never rfl (pi_range1 (by rfl) T.n_range (pa_cons (pv 0) pa_nil)) (pg_name (i := 5) sc_lcl2.nd rfl (Or.inl rfl))
            (pss_one (ps_if (PW.pt (pw_and (pt_val (pe_ix (kix_list K) (pe_ix (kix_list K) (pv 2) (pv 4) (fun _ _ => rfl)) (pv 3) (fun _ _ => rfl))) (pw_and1 (pt_val (pe_ix (kix_list K) (pe_ix (kix_list K) (pv 2) (pv 3) (fun _ _ => rfl)) (pv 5) (fun _ _ => rfl))))))
              (pss_one (ps_asg pe_bl (pg_sub (pe_ix (kix_list K) (pv 2) (pv 4) (fun _ _ => rfl)) (pv 5) set_list)))
              pss_nil)))))))
      (pss_one (ps_ret (pv 2)))))
      , ?_⟩
    walk_at "r"
    intro D hD
    refine lc_matr (n := n) (fun x y => decide (V.int ((0 : Int) + (x : Nat)) = V.int (0 + (y : Nat))) || (decide (V.int ((0 : Int) + (x : Nat)) = V.int 0) || (prs.map cpD).any fun z => PyData.eqv z (.tuple [.int (0 + (x : Nat)), .int (0 + (y : Nat))]))) (by omega) hD (fun _ => rfl) (fun x H1 Q1 hx s1 k1 => ?_) (fun rs H1 nm => ?_)
    · walk_at "r"
      intro D2 hD2
      refine lc_rowr (n := n) _ (by omega) hD2 (fun _ => rfl) (fun y H2 Q2 hy s2 k2 => ?_) (fun H2 s2 e2 => k1 D2 H2 s2 hD2 e2)
      walk_at "r"
      refine iteB (fun c1 => ?_) (fun c1 => ?_)
      · refine (congrArg (fun b => Q2 (V.bl b) H2) ?_).mpr (k2 H2 (Same.refl _))
        rw [c1]
        rfl
      · walk_at "r"
        refine iteB (fun c2 => ?_) (fun c2 => ?_)
        · refine (congrArg (fun b => Q2 (V.bl b) H2) ?_).mpr (k2 H2 (Same.refl _))
          rw [c1, c2]
          rfl
        · walk_at "r"
          refine ⟨(by show 2 ≤ sizeLine; decide), fun p hp' => ?_⟩
          refine ⟨_, rfl, _, _, .tup (SqT.of upd_same) (.cons (.int _) (.cons (.int _) .nil)), Dp.same ((s1.trans s2).trans (same_new hp')) _ _ hp, ?_, cpDs_shaped prs, ?_⟩
          · simp [SeqAt.shaped, PyData.canLay0, PyData.canLayAll0, PyData.depth, PyData.depthAll]
          · refine (congrArg (fun b => Q2 (V.bl b) _) ?_).mpr (k2 _ (same_new hp'))
            rw [c1, c2]
            rfl
    · walk_at "r"
      have nm := nm.congr fun x y _ _ => refM_is prs x y
      have c0 : ∀ z : Nat, (0 : Int) + (z : Nat) = ((z : Nat) : Int) := fun z => by omega
      refine for_range (lo := 0) (n := n) (fun i σ H2 => ∃ (v3 v4 v5 : Option V) (rs : List Addr), σ = [some (.int (n : Int)), some (.ref a), some (.ref D), v3, v4, v5] ∧ NewM H H2 D n (wM (refM prs) i) rs) ⟨none, none, none, rs, rfl, nm⟩ ?_ ?_
      · rintro mid σ H2 hmid ⟨v3, v4, v5, rs2, rfl, m2⟩
        walk_at "r"
        generalize hW : wM (refM prs) mid = W at m2
        have hW1 : wM (refM prs) (mid + 1) = stepM W mid := by
          rw [← hW]
          rfl
        refine for_range (lo := 0) (n := n) (fun i σ H3 => ∃ (v4 v5 : Option V) (rs : List Addr), σ = [some (.int (n : Int)), some (.ref a), some (.ref D), some (.int ((0 : Int) + mid)), v4, v5] ∧ NewM H H3 D n (rowI W mid i) rs) ⟨v4, v5, rs2, rfl, m2.congr fun x y _ _ => rfl⟩ ?_ ?_
        · rintro x σ H3 hx ⟨v4, v5, rs3, rfl, m3⟩
          walk_at "r"
          refine for_range (lo := 0) (n := n) (fun i σ H4 => ∃ (v5 : Option V) (rs : List Addr), σ = [some (.int (n : Int)), some (.ref a), some (.ref D), some (.int ((0 : Int) + mid)), some (.int ((0 : Int) + x)), v5] ∧ NewM H H4 D n (celI W mid x i) rs) ⟨v5, rs3, rfl, m3.congr fun _ _ _ _ => celI_zero⟩ ?_ ?_
          · rintro y σ H4 hy ⟨v5, rs4, rfl, m4⟩
            obtain ⟨r, hr4, har, her⟩ := m4.mat.get hx
            obtain ⟨r2, hr2, har2, her2⟩ := m4.mat.get hmid
            have stay : ¬ (W x mid = true ∧ W mid y = true) → ∃ (v5 : Option V) (rs : List Addr), [some (V.int (n : Int)), some (.ref a), some (.ref D), some (.int ((0 : Int) + mid)), some (.int ((0 : Int) + x)), some (.int ((0 : Int) + y))] = [some (V.int (n : Int)), some (.ref a), some (.ref D), some (.int ((0 : Int) + mid)), some (.int ((0 : Int) + x)), v5] ∧ NewM H H4 D n (celI W mid x (y + 1)) rs := fun z => ⟨_, _, rfl, m4.congr fun _ _ _ _ => celI_stay z⟩
            walk_at "r"
            refine ⟨_, _, _, _, rfl, rfl, SqL.of m4.mat.top, (by rw [c0]; exact har), _, rfl, _, _, _, _, rfl, rfl, SqL.of her, (by rw [c0]; exact rowV_at hmid), _, rfl, ?_⟩
            rw [celI_col]
            refine iteB (fun c => ?_) (fun c => stay fun z => by rw [z.1] at c; cases c)
            refine ⟨_, rfl, _, rfl, _, _, _, _, rfl, rfl, SqL.of m4.mat.top, (by rw [c0]; exact har2), _, rfl, _, _, _, _, rfl, rfl, SqL.of her2, (by rw [c0]; exact rowV_at hy), _, rfl, ?_⟩
            rw [celI_row]
            refine iteB (fun c2 => ?_) (fun c2 => stay fun z => by rw [z.2] at c2; cases c2)
            walk_at "r"
            refine ⟨_, _, _, _, rfl, rfl, SqL.of m4.mat.top, (by rw [c0]; exact har), _, rfl, _, _, _, _, rfl, rfl, her, (by rw [c0]; exact ixN_nat (by rw [rowV_len]; exact hy)), ?_⟩
            have m5 : NewM H _ D n (setM (celI W mid x y) x y true) rs4 := ⟨same_mut m4.same (m4.frees r (List.mem_of_getElem? hr4)), m4.mat.put hr4 hy, m4.free, m4.frees⟩
            exact ⟨_, rs4, rfl, m5.congr fun _ _ _ _ => celI_set ⟨c, c2⟩⟩
          · rintro σ H4 ⟨v5, rs4, rfl, m4⟩
            exact ⟨_, _, _, rfl, m4.congr fun _ _ _ hb => celI_last hb⟩
        · rintro σ H3 ⟨v4, v5, rs3, rfl, m3⟩
          rw [hW1]
          exact ⟨_, _, _, _, rfl, m3.congr fun x y hx _ => by
            unfold rowI
            rw [if_pos hx]⟩
      · rintro σ H2 ⟨v3, v4, v5, rs2, rfl, m2⟩
        walk_at "r"
        exact k D rs2 H2 m2
end
end Z

set_option Elab.async false
set_option linter.all false
set_option maxRecDepth 100000
set_option maxHeartbeats 1200000
namespace Z
open PySem L2
local macro_rules | `(tactic| walk_at "side") => `(tactic| first | omega | (unfold CMul; omega) | (unfold CDiv; omega) | (unfold CDivN; omega) | (unfold CPow; omega) | decide)
local macro_rules | `(tactic| walk_at "lst") => `(tactic| first | exact SqL.of (by assumption) | exact SqL.of upd_same | assumption | exact upd_same)
local macro_rules | `(tactic| walk_at "r1") => `(tactic| first | refine ⟨_, rfl, ?_⟩ | refine ⟨_, _, rfl, rfl, ?_⟩ | refine Or.inl ⟨_, rfl, ?_⟩ | refine And.intro rfl ?_ | refine ⟨_, _, _, _, rfl, rfl, by walk_at "lst", rfl, ?_⟩ | refine ⟨_, _, rfl, Or.inl (by walk_at "lst"), ?_⟩ | refine And.intro (by walk_at "side") ?_)
local macro_rules | `(tactic| walk_at "r") => `(tactic| repeat walk_at "r1")
theorem dF {i j : Int} (h : i ≠ j) : decide (V.int i = V.int j) = false := by
  rw [dec_i]
  exact decide_eq_false h
theorem dT {i j : Int} (h : i = j) : decide (V.int i = V.int j) = true := by
  rw [dec_i]
  exact decide_eq_true h
/-- the heap without the object at h -/
def hid (h : Addr) (H : Hp) : Hp := fun b => if b = h then none else H b
theorem hid_of {h b : Addr} {H : Hp} {o : HO} (e : H b = some o) (n : b ≠ h) : hid h H b = some o := by
  unfold hid
  rw [if_neg n]
  exact e
theorem hid_same {h : Addr} {H : Hp} : Same (hid h H) H := fun b o e => by
  unfold hid at e
  by_cases n : b = h
  · rw [if_pos n] at e
    cases e
  · rw [if_neg n] at e
    exact e
theorem Keep.hid {h : Addr} {H H' : Hp} (k : Keep h H H') : Same (Z.hid h H) (Z.hid h H') := fun b o e => by
  have e1 := hid_same _ _ e
  have n : b ≠ h := fun z => by
    unfold Z.hid at e
    rw [if_pos z] at e
    cases e
  exact hid_of (k b o e1 n) n
def tpO (z : Nat × Nat) : Option HO := some (.tup [.int z.1, .int z.2])
/-- a list of couples of numbers, each in a tuple of its own -/
structure PrsAt (H : Hp) (q : Addr) (as : List Addr) (prs : List (Nat × Nat)) : Prop where
  top : H q = some (.lst (as.map V.ref))
  its : as.map H = prs.map tpO
theorem PrsAt.len {H : Hp} {q : Addr} {as : List Addr} {prs : List (Nat × Nat)} (p : PrsAt H q as prs) : as.length = prs.length := by
  have e := congrArg List.length p.its
  rw [List.length_map, List.length_map] at e
  exact e
theorem PrsAt.mem {H : Hp} {q : Addr} {as : List Addr} {prs : List (Nat × Nat)} (p : PrsAt H q as prs) {a : Addr} (h : a ∈ as) : ∃ z, H a = tpO z := by
  have e : H a ∈ prs.map tpO := by
    rw [← p.its]
    exact List.mem_map_of_mem h
  obtain ⟨z, _, e⟩ := List.mem_map.mp e
  exact ⟨z, e.symm⟩
theorem PrsAt.dpAll {K : PySem.W.Frag} {H : Hp} : ∀ {as : List Addr} {prs : List (Nat × Nat)}, as.map H = prs.map tpO → DpAll K H (as.map V.ref) (prs.map cpD)
  | [], [], _ => .nil
  | a :: as, z :: prs, e => by
    rw [List.map_cons, List.map_cons] at e
    injection e with e1 e2
    exact .cons (.tup (SqT.of e1) (.cons (.int _) (.cons (.int _) .nil))) (PrsAt.dpAll e2)
  | [], _ :: _, e => by cases e
  | _ :: _, [], e => by cases e
theorem PrsAt.dp {K : PySem.W.Frag} {H : Hp} {q : Addr} {as : List Addr} {prs : List (Nat × Nat)} (p : PrsAt H q as prs) : Dp K H (.ref q) (.list (prs.map cpD)) := .lst (SqL.of p.top) (PrsAt.dpAll p.its)
theorem map_same {H H' : Hp} {as : List Addr} {prs : List (Nat × Nat)} (e : as.map H = prs.map tpO) (s : ∀ a ∈ as, ∀ o, H a = some o → H' a = some o) : as.map H' = prs.map tpO := by
  rw [← e]
  refine List.map_congr_left fun a ha => ?_
  have m : H a ∈ prs.map tpO := by
    rw [← e]
    exact List.mem_map_of_mem ha
  obtain ⟨z, _, ez⟩ := List.mem_map.mp m
  rw [← ez]
  exact s a ha _ ez.symm
theorem PrsAt.same {H H' : Hp} {q : Addr} {as : List Addr} {prs : List (Nat × Nat)} (p : PrsAt H q as prs) (s : Same H H') : PrsAt H' q as prs := ⟨s _ _ p.top, map_same p.its fun a _ o => s a o⟩
theorem PrsAt.keep {H H' : Hp} {q h ha : Addr} {as : List Addr} {prs : List (Nat × Nat)} (p : PrsAt H q as prs) (k : Keep h H H') (n : q ≠ h) (hn : Hnd H h ha) : PrsAt H' q as prs := by
  refine ⟨k _ _ p.top n, map_same p.its fun a ma o e => k a o e fun z => ?_⟩
  obtain ⟨w, e2⟩ := p.mem ma
  obtain ⟨cs, i, r, t, e1, _⟩ := hn.ex
  rw [z, e1] at e2
  cases e2
/-- told.append of a new couple -/
theorem PrsAt.push {H : Hp} {q a : Addr} {as : List Addr} {prs : List (Nat × Nat)} {z : Nat × Nat} (p : PrsAt H q as prs) (e : H a = tpO z) : PrsAt (upd H q (.lst (as.map V.ref ++ [.ref a]))) q (as ++ [a]) (prs ++ [z]) := by
  have nq : ∀ b w, H b = tpO w → b ≠ q := fun b w eb n => by
    rw [n, p.top] at eb
    cases eb
  refine ⟨by rw [upd_same, List.map_append]; rfl, ?_⟩
  rw [List.map_append, List.map_append]
  refine congr (congrArg _ (map_same p.its fun b mb o eb => ?_)) ?_
  · obtain ⟨w, e2⟩ := p.mem mb
    rw [upd_ne (nq b w e2)]
    exact eb
  · show [upd H q _ a] = [tpO z]
    rw [upd_ne (nq a z e), e]
theorem Keep.free {h b : Addr} {H H' : Hp} (k : Keep h H H') (n : H' b = none) (ne : b ≠ h) : H b = none := by
  cases e : H b with
  | none => rfl
  | some o =>
    rw [k b o e ne] at n
    cases n
/-- a new couple put behind the list at q -/
theorem PrsAt.grow {H H8 : Hp} {h ha q nm : Addr} {L : List V} {as : List Addr} {prs : List (Nat × Nat)} (k8 : Keep h H H8) (n8 : Hnd H8 h ha) (e8 : H8 nm = some (.lst L)) (p8 : PrsAt H8 q as prs) (qn : q ≠ nm) (qh : q ≠ h) (qa : q ≠ ha) (hq : H q = none) {p : Addr} (hp : H8 p = none) (x y : Nat) :
    Keep h H (upd (upd H8 p (.tup [.int x, .int y])) q (.lst (as.map V.ref ++ [.ref p]))) ∧ Hnd (upd (upd H8 p (.tup [.int x, .int y])) q (.lst (as.map V.ref ++ [.ref p]))) h ha ∧
    upd (upd H8 p (.tup [.int x, .int y])) q (.lst (as.map V.ref ++ [.ref p])) nm = some (.lst L) ∧ PrsAt (upd (upd H8 p (.tup [.int x, .int y])) q (.lst (as.map V.ref ++ [.ref p]))) q (as ++ [p]) (prs ++ [(x, y)]) := by
  refine ⟨(k8.trans (Keep.new hp)).mut hq, (n8.new hp).off qh qa, ?_, (p8.same (same_new hp)).push upd_same⟩
  rw [upd_ne qn.symm]
  exact same_new hp _ _ e8
/-! ### ranks in a list -/
def rkOf : List Nat → Nat → Nat
  | [], _ => 0
  | a :: l, x => if x = a then 0 else rkOf l x + 1
theorem rk_at : ∀ {l : List Nat} {i x : Nat}, l.Nodup → l[i]? = some x → rkOf l x = i
  | [], i, x, _, h => by simp at h
  | a :: l, 0, x, _, h => by
    simp at h
    subst h
    exact if_pos rfl
  | a :: l, i + 1, x, nd, h => by
    have h : l[i]? = some x := by simpa using h
    have nd := List.nodup_cons.mp nd
    have ne : x ≠ a := fun z => nd.1 (z ▸ List.mem_of_getElem? h)
    show (if x = a then 0 else rkOf l x + 1) = i + 1
    rw [if_neg ne, rk_at nd.2 h]
def natV : V → Nat | .int i => i.toNat | _ => 0
theorem MatAt.hkeep {H H' : Hp} {p h ha : Addr} {n : Nat} {M : Nat → Nat → Bool} {rs : List Addr} (m : MatAt H p n M rs) (k : Keep h H H') (hn : Hnd H h ha) : MatAt H' p n M rs := by
  obtain ⟨cs, i, r, t, e1, _⟩ := hn.ex
  refine ⟨k _ _ m.top fun z => ?_, m.len, fun x r' e => k _ _ (m.row x r' e) fun z => ?_, m.nd, m.np⟩
  · have q := m.top
    rw [z, e1] at q
    cases rs with
    | nil => cases q
    | cons a rs =>
      cases rs with
      | nil => cases q
      | cons b rs => cases q
  · have q := m.row x r' e
    rw [z, e1] at q
    cases n with
    | zero => cases q
    | succ n =>
      have q2 := congrArg (fun o : Option HO => match o with
        | some (.lst (.ref _ :: _)) => true
        | _ => false) q
      have e3 : rowV (n + 1) (M x) = V.bl (M x 0) :: (rowV (n + 1) (M x)).tail := by
        unfold rowV
        rw [List.range_succ_eq_map]
        rfl
      rw [e3] at q2
      cases q2
abbrev s_lor : Stmt := top 29
def spLOr2 (K : PySem.W.Frag) : Sp := fun vs H Q _ => ∃ (h ha : Addr) (m : Int), vs = [.ref h, .int m] ∧ Hnd H h ha ∧ 3 ≤ m ∧ m ≤ 24 ∧
  ∀ p q b rs (n : Nat) B rk H', Keep h H H' → Hnd H' h ha → PO n B rk → H' p = some (.tup [.int (n : Nat), .ref q, .ref b]) → MatAt H' b n B rs → Q (.ref p) H'
section
variable {P : Program} {w : World} {K : PySem.W.Frag} {mg : Str → Option Value} {base : Heap}
theorem sc_lor : FnScope ["hand", "most", "n", "way", "names", "pairs", "y", "x"] ["hand", "most"] (defScope s_lor) := ⟨rfl, rfl, rfl, by decide +kernel, rfl, by decide +kernel, by decide +kernel⟩
theorem ok_lor2 {f : Addr} {fd : FuncData} (F : Fun K "_law_order" "_law_order" s_lor f fd) (T : Bl mg) (c_law_draw : Cal P w K mg base CX0 "_law_draw" 2 spDraw) (c_law_shuffled : Cal P w K mg base CX0 "_law_shuffled" 3 (spShuf K)) (c_law_closed : Cal P w K mg base CX0 "_law_closed" 1 (spLC2 K)) : FnOk P w K mg base CX0 4 f fd ["hand", "most"] (spLOr2 K) := by
  refine F.ok sc_lor (fun vs H Q E h => ?_) (fun cdv A outer s H vs Q E hr h => ?_)
  · obtain ⟨h, ha, m, rfl, _⟩ := h
    rfl
  · obtain ⟨h, ha, m, rfl, hn, h3, h24, k⟩ := h
    refine ⟨_,
      (pss_cons (ps_set (i := 2) sc_lor.nd rfl (Or.inl rfl) (pe_op op_add pe_int (pe_cal c_law_draw (hr.mono (by decide)) (by rfl) (pa_cons (pv 0) (pa_cons (pe_op op_sub (pv 1) pe_int) pa_nil)))))
      (pss_cons (ps_set (i := 3) sc_lor.nd rfl (Or.inl rfl) (pe_cal c_law_draw (hr.mono (by decide)) (by rfl) (pa_cons (pv 0) (pa_cons pe_int pa_nil))))
      (pss_cons (ps_set (i := 4) sc_lor.nd rfl (Or.inl rfl) (pe_op op_cat (pe_lst (pa_cons pe_int pa_nil)) (pe_cal c_law_shuffled (hr.mono (by decide)) (by rfl) (pa_cons (pv 0) (pa_cons (pe_lc (own := [("x", 7)]) (by rfl) sc_lor.nd (pi_range2 (by rfl) T.n_range (pa_cons pe_int (pa_cons (pv 2) pa_nil))) (blkOk_by (own := [("x", 7)]) (by show blkC ["hand", "most", "n", "way", "names", "pairs", "y", "x"] (defScope s_lor) _ _ = true; decide +kernel)) (fun _ _ _ _ _ => (pg_name (i := 7) sc_lor.nd rfl (Or.inl rfl))) (fun _ _ _ _ _ => pts_nil) (fun _ _ _ _ _ => (pv 7))) pa_nil)))))
      (pss_cons (ps_setLc (i := 5) (own := [("x", 7)]) (by rfl) sc_lor.nd rfl rfl (sw_true rfl rfl rfl (by decide +kernel)) (pi_range2 (by rfl) T.n_range (pa_cons pe_int (pa_cons (pv 2) pa_nil))) (blkOk_by (own := [("x", 7)]) (by show blkC ["hand", "most", "n", "way", "names", "pairs", "y", "x"] (defScope s_lor) _ _ = true; decide +kernel)) (fun _ _ _ _ _ => (pg_name (i := 7) sc_lor.nd rfl (Or.inl rfl))) (fun _ _ _ _ _ => pts_nil) (fun _ _ _ _ _ => (pe_tup (pa_cons pe_int (pa_cons (pv 7) pa_nil)))))
      (pss_cons (ps_for PassesOwn.never rfl (pi_range2 (by rfl) T.n_range (pa_cons pe_int (pa_cons (pv 2) pa_nil))) (pg_name (i := 6) sc_lor.nd rfl (Or.inl rfl))
        (pss_cons (ps_if (pt_cmpR op_eq (pv 3) pe_int (nomark _))
          (pss_one (ps_expr (pe_bm PySem.F.plainAttrs_list PySem.F.slot_list_append PySem.F.type_list_append mt_append (pv 5) (pa_cons (pe_tup (pa_cons (pe_ix (kix_list K) (pv 4) (pe_op op_sub (pv 6) pe_int) (fun _ _ => rfl)) (pa_cons (pe_ix (kix_list K) (pv 4) (pv 6) (fun _ _ => rfl)) pa_nil))) pa_nil))))
          pss_nil)
        (pss_cons (ps_if (PW.pt (pw_or (pt_cmpR op_eq (pv 3) pe_int (nomark _)) (pw_or1 (pt_cmpR op_eq (pv 3) pe_int (nomark _)))))
          (pss_one (ps_expr (pe_bm PySem.F.plainAttrs_list PySem.F.slot_list_append PySem.F.type_list_append mt_append (pv 5) (pa_cons (pe_tup (pa_cons (pe_ix (kix_list K) (pv 4) (pe_cal c_law_draw (hr.mono (by decide)) (by rfl) (pa_cons (pv 0) (pa_cons (pv 6) pa_nil))) (fun _ _ => rfl)) (pa_cons (pe_ix (kix_list K) (pv 4) (pv 6) (fun _ _ => rfl)) pa_nil))) pa_nil))))
          pss_nil)
        (pss_one (ps_if (pt_cmpR op_gt (pv 3) pe_int (nomark _))
          (pss_one (ps_for PassesOwn.never rfl (pi_range2 (by rfl) T.n_range (pa_cons pe_int (pa_cons (pv 6) pa_nil))) (pg_name (i := 7) sc_lor.nd rfl (Or.inl rfl))
            (pss_one (ps_if (pt_cmpR op_eq (pe_cal c_law_draw (hr.mono (by decide)) (by rfl) (pa_cons (pv 0) (pa_cons pe_int pa_nil))) pe_int (nomark _))
              (pss_one (ps_expr (pe_bm PySem.F.plainAttrs_list PySem.F.slot_list_append PySem.F.type_list_append mt_append (pv 5) (pa_cons (pe_tup (pa_cons (pe_ix (kix_list K) (pv 4) (pv 7) (fun _ _ => rfl)) (pa_cons (pe_ix (kix_list K) (pv 4) (pv 6) (fun _ _ => rfl)) pa_nil))) pa_nil))))
              pss_nil))))
          pss_nil)))))
      (pss_one (ps_ret (pe_tup (pa_cons (pv 2) (pa_cons (pv 5) (pa_cons (pe_cal c_law_closed (hr.mono (by decide)) (by rfl) (pa_cons (pv 2) (pa_cons (pv 5) pa_nil))) pa_nil)))))))))))
      , ?_⟩
    walk_at "r"
    refine ⟨h, ha, _, rfl, hn, by omega, by omega, fun d H1 d0 d1 k1 n1 f1 => ?_⟩
    walk_at "r"
    refine ⟨h, ha, _, rfl, n1, by omega, by omega, fun way H2 w0 w1 k2 n2 f2 => ?_⟩
    have ed : ((d.toNat : Nat) : Int) = d := by omega
    walk_at "r"
    intro z0 hz0
    walk_at "r"
    obtain ⟨N, eN⟩ : ∃ N : Nat, (2 : Int) + d = (N : Int) := ⟨(2 + d).toNat, by omega⟩
    have hN2 : 2 ≤ N := by omega
    have hN24 : N ≤ 24 := by omega
    have kz : Keep h H (upd H2 z0 (.lst [.int 0])) := (k1.trans k2).trans (Keep.new hz0)
    have nz : Hnd (upd H2 z0 (.lst [.int 0])) h ha := n2.new hz0
    have ez : upd H2 z0 (.lst [.int 0]) z0 = some (.lst [.int 0]) := upd_same
    generalize upd H2 z0 (.lst [.int 0]) = H3 at kz nz ez ⊢
    refine ⟨_, _, rfl, ⟨by omega, by omega, by omega, by omega⟩, ?_⟩
    intro D hD
    refine lc_range (lo := 1) (n := (2 + d - 1).toNat) (fun i H' => Same H3 H' ∧ H' D = some (.lst ((List.range i).map fun (j : Nat) => V.int (1 + (j : Int))))) ⟨same_new hD, upd_same⟩ ?_ ?_
    · rintro i H' hi ⟨s1, e1⟩
      refine ⟨rfl, _, rfl, _, e1, small1000 (by simp; omega), same_mut s1 hD, ?_⟩
      rw [upd_same, List.range_succ, List.map_append]
      rfl
    · rintro H' ⟨s1, e1⟩
      have hDh : D ≠ h := nz.ne hD
      have kD : ∀ H'', Keep h H' H'' → SqL K H'' D ((List.range (2 + d - 1).toNat).map fun (j : Nat) => V.int (1 + (j : Int))) := fun H'' kk => SqL.of (kk _ _ e1 hDh)
      refine ⟨h, ha, D, _, rfl, nz.same s1, .inl (SqL.of e1), fun H'' kk => .inl (kD H'' kk), (by simp; omega), fun l ws H4 pm k4 n4 hl el => ?_⟩
      have lh : l ≠ h := (nz.same s1).ne hl
      have k3 : Keep h H3 H4 := (Keep.of_same s1).trans k4
      have ez4 := k3 _ _ ez (fun z => by
        obtain ⟨cs, i, r, t, q1, _⟩ := nz.ex
        rw [z, q1] at ez
        cases ez)
      have wlen : ws.length = N - 1 := by
        rw [pm.length_eq]
        simp
        omega
      refine ⟨z0, l, _, ws, rfl, rfl, ez4, el, (by show 1 + ws.length ≤ sizeLine; exact Nat.le_of_lt (small1000 (by omega))), fun nm hnm => ?_⟩
      have pm2 := pm.map natV
      have rg : ((List.range (2 + d - 1).toNat).map fun (j : Nat) => V.int (1 + (j : Int))).map natV = (List.range (2 + d - 1).toNat).map fun j => 1 + j := by
        rw [List.map_map]
        refine List.map_congr_left fun j _ => ?_
        show ((1 : Int) + (j : Int)).toNat = 1 + j
        omega
      rw [rg] at pm2
      have ndw : (ws.map natV).Nodup := pm2.nodup_iff.mpr (List.pairwise_map.mpr (List.nodup_range.imp fun h e => h (by omega)))
      have nz : 0 ∉ ws.map natV := fun z => by
        obtain ⟨j, _, e⟩ := List.mem_map.mp (pm2.mem_iff.mp z)
        omega
      have ndn : (0 :: ws.map natV).Nodup := List.nodup_cons.mpr ⟨nz, ndw⟩
      obtain ⟨rk, hrk⟩ : ∃ rk : Nat → Nat, rk = rkOf (0 :: ws.map natV) := ⟨_, rfl⟩
      have h0 : ∀ x, x < N → x ≠ 0 → rk 0 < rk x := fun x _ hx => by
        rw [hrk]
        show (if 0 = 0 then 0 else rkOf (ws.map natV) 0 + 1) < (if x = 0 then 0 else rkOf (ws.map natV) x + 1)
        rw [if_pos rfl, if_neg hx]
        exact Nat.succ_pos _
      have names : ∀ i, i < N → ∃ x : Nat, x < N ∧ (V.int 0 :: ws)[i]? = some (.int (x : Int)) ∧ rk x = i := fun i hi => by
        cases i with
        | zero => exact ⟨0, by omega, rfl, by rw [hrk]; rfl⟩
        | succ i =>
          have hil : i < ws.length := by omega
          have mem : ws[i] ∈ (List.range (2 + d - 1).toNat).map fun (j : Nat) => V.int (1 + (j : Int)) := pm.mem_iff.mp (List.getElem_mem hil)
          obtain ⟨j, hj, e⟩ := List.mem_map.mp mem
          have hj' := List.mem_range.mp hj
          refine ⟨1 + j, by omega, ?_, ?_⟩
          · rw [List.getElem?_cons_succ, List.getElem?_eq_getElem hil, ← e]
            congr 2
          · rw [hrk]
            refine rk_at ndn ?_
            rw [List.getElem?_cons_succ, List.getElem?_map, List.getElem?_eq_getElem hil, ← e]
            show some ((1 : Int) + (j : Int)).toNat = some (1 + j)
            congr 1
      clear hrk ndn ndw nz rg pm2
      have nmh : nm ≠ h := n4.ne hnm
      have k5 : Keep h H (upd H4 nm (.lst ([V.int 0] ++ ws))) := (kz.trans k3).trans (Keep.new hnm)
      have n5 : Hnd (upd H4 nm (.lst ([V.int 0] ++ ws))) h ha := n4.new hnm
      have e5 : upd H4 nm (.lst ([V.int 0] ++ ws)) nm = some (.lst (V.int 0 :: ws)) := upd_same
      generalize upd H4 nm (.lst ([V.int 0] ++ ws)) = H5 at k5 n5 e5 ⊢
      walk_at "r"
      refine ⟨_, _, rfl, ⟨by omega, by omega, by omega, by omega⟩, ?_⟩
      intro q hq
      have qh : q ≠ h := n5.ne hq
      refine lc_range (lo := 1) (n := (2 + d - 1).toNat) (fun i H' => ∃ as prs, Same H5 H' ∧ PrsAt H' q as prs ∧ prs.length = i ∧ ∀ z ∈ prs, z.1 < N ∧ z.2 < N ∧ rk z.1 < rk z.2) ⟨[], [], same_new hq, ⟨upd_same, rfl⟩, rfl, fun _ h => nomatch h⟩ ?_ ?_
      · rintro i H6 hi ⟨as, prs, s6, pa, pl, pb⟩
        refine ⟨rfl, ?_⟩
        walk_at "r"
        refine ⟨(by show 2 ≤ sizeLine; decide), fun p hp => ?_⟩
        have ec : (1 : Int) + (i : Nat) = ((1 + i : Nat) : Int) := by omega
        have et : upd H6 p (.tup [V.int 0, V.int (1 + (i : Nat))]) p = tpO (0, 1 + i) := by
          rw [upd_same]
          unfold tpO
          rw [ec]
          rfl
        have p6 := (pa.same (same_new (o := .tup [V.int 0, V.int (1 + (i : Nat))]) hp))
        refine ⟨_, p6.top, small1000 (by rw [List.length_map, pa.len]; omega), as ++ [p], prs ++ [(0, 1 + i)], same_mut (s6.trans (same_new hp)) hq, p6.push et, by simp [pl], fun z hz => ?_⟩
        rcases List.mem_append.mp hz with hz | hz
        · exact pb z hz
        · have e : z = (0, 1 + i) := by simpa using hz
          rw [e]
          exact ⟨by omega, by show 1 + i < N; omega, h0 _ (by omega) (by omega)⟩
      · rintro H6 ⟨as, prs, s6, pa, pl, pb⟩
        have k6 : Keep h H H6 := k5.trans (Keep.of_same s6)
        have n6 : Hnd H6 h ha := n5.same s6
        have e6 := s6 _ _ e5
        have qa : q ≠ ha := n5.nea hq
        have hqH : H q = none := k5.free hq qh
        clear s6 hq e5 n5 k5
        walk_at "r"
        refine ⟨_, _, rfl, ⟨by omega, by omega, by omega, by omega⟩, ?_⟩
        refine for_range (lo := 2) (n := (2 + d - 2).toNat) (fun i σ H' => ∃ (v6 v7 : Option V) (as : List Addr) (prs : List (Nat × Nat)), σ = [some (.ref h), some (.int m), some (.int (2 + d)), some (.int way), some (.ref nm), some (.ref q), v6, v7] ∧ Keep h H H' ∧ Hnd H' h ha ∧ H' nm = some (.lst (V.int 0 :: ws)) ∧ PrsAt H' q as prs ∧ prs.length ≤ 24 + i * 24 ∧ ∀ z ∈ prs, z.1 < N ∧ z.2 < N ∧ rk z.1 < rk z.2)
          ⟨none, none, as, prs, rfl, k6, n6, e6, pa, by omega, pb⟩ ?_ ?_
        · rintro i σ H7 hi ⟨v6, v7, as7, prs7, rfl, k7, n7, e7, p7, l7, b7⟩
          have i24 : i < 22 := by omega
          obtain ⟨yv, hyv, eyv, ryv⟩ := names (2 + i) (by omega)
          have iy : atI (V.int 0 :: ws) ((2 : Int) + i) = some (.int (yv : Int)) := by
            have e : (2 : Int) + (i : Nat) = ((2 + i : Nat) : Int) := by omega
            rw [e]
            exact atI_nat eyv
          have fin : ∀ (v : Option V) (as' : List Addr) (prs' : List (Nat × Nat)) (H8 : Hp), Keep h H H8 → Hnd H8 h ha → H8 nm = some (.lst (V.int 0 :: ws)) → PrsAt H8 q as' prs' → prs'.length ≤ prs7.length + 24 → (∀ z ∈ prs', z.1 < N ∧ z.2 < N ∧ rk z.1 < rk z.2) →
              ∃ (v6 v7 : Option V) (as : List Addr) (prs : List (Nat × Nat)), [some (V.ref h), some (.int m), some (.int (2 + d)), some (.int way), some (.ref nm), some (.ref q), some (.int (2 + i)), v] = [some (V.ref h), some (.int m), some (.int (2 + d)), some (.int way), some (.ref nm), some (.ref q), v6, v7] ∧ Keep h H H8 ∧ Hnd H8 h ha ∧ H8 nm = some (.lst (V.int 0 :: ws)) ∧ PrsAt H8 q as prs ∧ prs.length ≤ 24 + (i + 1) * 24 ∧ ∀ z ∈ prs, z.1 < N ∧ z.2 < N ∧ rk z.1 < rk z.2 :=
            fun v as' prs' H8 a b c e f g => ⟨_, _, as', prs', rfl, a, b, c, e, by omega, g⟩
          have qnm : q ≠ nm := fun z => by
            have e1 := p7.top
            rw [z, e7] at e1
            cases as7 <;> cases e1
          by_cases w1' : way = 1
          · subst w1'
            walk_at "r"
            refine ⟨.inl ⟨rfl, _, SqL.of p7.top⟩, ?_⟩
            walk_at "r"
            obtain ⟨xv, hxv, exv, rxv⟩ := names (1 + i) (by omega)
            have ix : atI (V.int 0 :: ws) ((2 : Int) + i - 1) = some (.int (xv : Int)) := by
              have e : (2 : Int) + (i : Nat) - 1 = ((1 + i : Nat) : Int) := by omega
              rw [e]
              exact atI_nat exv
            refine ⟨_, _, _, _, rfl, rfl, SqL.of e7, ix, ?_⟩
            refine ⟨_, rfl, _, rfl, _, _, _, _, rfl, rfl, SqL.of e7, iy, ?_⟩
            walk_at "r"
            refine ⟨(by show 2 ≤ sizeLine; decide), fun p hp => ?_⟩
            obtain ⟨kg, ng, eg, pg⟩ := PrsAt.grow k7 n7 e7 p7 qnm qh qa hqH hp xv yv
            refine ⟨q, _, _, rfl, rfl, (p7.same (same_new hp)).top, small1000 (by rw [List.length_map, p7.len]; omega), ?_⟩
            walk_at "r"
            exact fin v7 _ _ _ kg ng eg pg (by simp) (fun z hz => by
              rcases List.mem_append.mp hz with hz | hz
              · exact b7 z hz
              · have e : z = (xv, yv) := by simpa using hz
                rw [e]
                exact ⟨hxv, hyv, by show rk xv < rk yv; omega⟩)
          by_cases h0 : way = 0
          · subst h0
            walk_at "r"
            exact fin v7 _ _ _ k7 n7 e7 p7 (by omega) b7
          by_cases h23 : way = 2 ∨ way = 3
          · rcases h23 with rfl | rfl
            all_goals
              walk_at "r"
              refine ⟨.inl ⟨rfl, _, SqL.of p7.top⟩, ?_⟩
              walk_at "r"
              refine ⟨h, ha, _, rfl, n7, by omega, by omega, fun dd H8 dd0 dd1 k8 n8 _ => ?_⟩
              have e8 := k8 _ _ e7 nmh
              have p8 := p7.keep k8 qh n7
              obtain ⟨xv, hxv, exv, rxv⟩ := names dd.toNat (by omega)
              have ix : atI (V.int 0 :: ws) dd = some (.int (xv : Int)) := by
                have e : dd = ((dd.toNat : Nat) : Int) := by omega
                rw [e]
                exact atI_nat exv
              refine ⟨_, _, _, _, rfl, rfl, SqL.of e8, ix, ?_⟩
              refine ⟨_, rfl, _, rfl, _, _, _, _, rfl, rfl, SqL.of e8, iy, ?_⟩
              walk_at "r"
              refine ⟨(by show 2 ≤ sizeLine; decide), fun p hp => ?_⟩
              obtain ⟨kg, ng, eg, pg⟩ := PrsAt.grow (k7.trans k8) n8 e8 p8 qnm qh qa hqH hp xv yv
              refine ⟨q, _, _, rfl, rfl, (p8.same (same_new hp)).top, small1000 (by rw [List.length_map, p8.len]; omega), ?_⟩
              walk_at "r"
              exact fin v7 _ _ _ kg ng eg pg (by simp) (fun z hz => by
                rcases List.mem_append.mp hz with hz | hz
                · exact b7 z hz
                · have e : z = (xv, yv) := by simpa using hz
                  rw [e]
                  exact ⟨hxv, hyv, by show rk xv < rk yv; omega⟩)
          have h4 : 3 < way := by omega
          have c1 := dF w1'
          have c2 : decide (V.int way = V.int 2) = false := dF (by omega)
          have c3 : decide (V.int way = V.int 3) = false := dF (by omega)
          walk_at "r"
          refine ifF c1 ?_
          walk_at "r"
          refine ifF c2 ?_
          walk_at "r"
          refine ifF c3 ?_
          walk_at "r"
          refine ifT (decide_eq_true h4) ?_
          walk_at "r"
          refine ⟨_, _, rfl, ⟨by omega, by omega, by omega, by omega⟩, ?_⟩
          refine for_range (lo := 1) (n := ((2 : Int) + i - 1).toNat) (fun j σ H' => ∃ (v7 : Option V) (as : List Addr) (prs : List (Nat × Nat)), σ = [some (.ref h), some (.int m), some (.int (2 + d)), some (.int way), some (.ref nm), some (.ref q), some (.int (2 + i)), v7] ∧ Keep h H H' ∧ Hnd H' h ha ∧ H' nm = some (.lst (V.int 0 :: ws)) ∧ PrsAt H' q as prs ∧ prs.length ≤ prs7.length + j ∧ ∀ z ∈ prs, z.1 < N ∧ z.2 < N ∧ rk z.1 < rk z.2)
            ⟨v7, as7, prs7, rfl, k7, n7, e7, p7, by omega, b7⟩ ?_ ?_
          · rintro j σ H8 hj ⟨v8, as8, prs8, rfl, k8, n8, e8, p8, l8, b8⟩
            obtain ⟨xv, hxv, exv, rxv⟩ := names (1 + j) (by omega)
            have ix : atI (V.int 0 :: ws) ((1 : Int) + j) = some (.int (xv : Int)) := by
              have e : (1 : Int) + (j : Nat) = ((1 + j : Nat) : Int) := by omega
              rw [e]
              exact atI_nat exv
            walk_at "r"
            refine ⟨h, ha, _, rfl, n8, by omega, by omega, fun dd H9 dd0 dd1 k9 n9 _ => ?_⟩
            have e9 := k9 _ _ e8 nmh
            have p9 := p8.keep k9 qh n8
            walk_at "r"
            refine iteB (fun c => ?_) (fun c => ?_)
            · walk_at "r"
              refine ⟨.inl ⟨rfl, _, SqL.of p9.top⟩, ?_⟩
              walk_at "r"
              refine ⟨_, _, _, _, rfl, rfl, SqL.of e9, ix, ?_⟩
              refine ⟨_, rfl, _, rfl, _, _, _, _, rfl, rfl, SqL.of e9, iy, ?_⟩
              walk_at "r"
              refine ⟨(by show 2 ≤ sizeLine; decide), fun p hp => ?_⟩
              obtain ⟨kg, ng, eg, pg⟩ := PrsAt.grow (k8.trans k9) n9 e9 p9 qnm qh qa hqH hp xv yv
              refine ⟨q, _, _, rfl, rfl, (p9.same (same_new hp)).top, small1000 (by rw [List.length_map, p9.len]; omega), ?_⟩
              refine ⟨_, _, _, rfl, kg, ng, eg, pg, by rw [List.length_append]; show _ + 1 ≤ _; omega, fun z hz => ?_⟩
              rcases List.mem_append.mp hz with hz | hz
              · exact b8 z hz
              · have e : z = (xv, yv) := by simpa using hz
                rw [e]
                exact ⟨hxv, hyv, by show rk xv < rk yv; omega⟩
            · exact ⟨_, _, _, rfl, k8.trans k9, n9, e9, p9, by omega, b8⟩
          · rintro σ H8 ⟨v8, as8, prs8, rfl, k8, n8, e8, p8, l8, b8⟩
            exact fin _ _ _ _ k8 n8 e8 p8 (by omega) b8
        · rintro σ H7 ⟨v6, v7, as7, prs7, rfl, k7, n7, e7, p7, l7, b7⟩
          walk_at "r"
          refine ⟨N, q, prs7, by rw [← eN]; rfl, hN24, p7.dp, fun b rs H8 m8 => ?_⟩
          walk_at "r"
          refine ⟨(by show 3 ≤ sizeLine; decide), fun p hp => ?_⟩
          refine k p q b rs N _ rk _ (k7.trans ((Keep.of_same m8.same).trans (Keep.new hp))) ((n7.same m8.same).new hp) (po_of (by omega) hN24 b7 h0) ?_ (m8.mat.same (same_new hp))
          rw [upd_same, ← eN]
end
end Z

set_option Elab.async false
set_option linter.all false
set_option maxRecDepth 100000
set_option maxHeartbeats 1200000
namespace Z
open PySem L2
local macro_rules | `(tactic| walk_at "side") => `(tactic| first | omega | (unfold CMul; omega) | (unfold CDiv; omega) | (unfold CDivN; omega) | (unfold CPow; omega) | decide)
local macro_rules | `(tactic| walk_at "lst") => `(tactic| first | exact SqL.of (by assumption) | exact SqL.of upd_same | assumption | exact upd_same)
local macro_rules | `(tactic| walk_at "r1") => `(tactic| first | refine ⟨_, rfl, ?_⟩ | refine ⟨_, _, rfl, rfl, ?_⟩ | refine Or.inl ⟨_, rfl, ?_⟩ | refine And.intro rfl ?_ | refine ⟨_, _, _, _, rfl, rfl, by walk_at "lst", rfl, ?_⟩ | refine ⟨_, _, rfl, Or.inl (by walk_at "lst"), ?_⟩ | refine And.intro (by walk_at "side") ?_)
local macro_rules | `(tactic| walk_at "r") => `(tactic| repeat walk_at "r1")
abbrev s_exact : Stmt := top 24
def spEx (K : PySem.W.Frag) (S : PyData → Bool) : Sp := fun vs H Q _ => ∃ (x y : V) (d : PyData), vs = [x, y] ∧ Dp K H x d ∧ Dp K H y d ∧ S d = true ∧ ∀ H', Same H H' → Q (.bl true) H'
def lift (S : PyData → Bool) : PyData → Bool
  | .tuple ds => ds.all S && decide (ds.length ≤ 600)
  | .none => true
  | .bool _ => true
  | .int _ => true
  | .str _ => true
  | _ => false
section
variable {P : Program} {w : World} {K : PySem.W.Frag} {mg : Str → Option Value} {base : Heap}
theorem sc_exact : FnScope ["told", "due", "k"] ["told", "due"] (defScope s_exact) := ⟨rfl, rfl, rfl, by decide +kernel, rfl, by decide +kernel, by decide +kernel⟩
theorem ok_exact {j : Nat} {S : PyData → Bool} {f : Addr} {fd : FuncData} (F : Fun K "_law_exact" "_law_exact" s_exact f fd) (T : Bl mg) (c_law_exact : Cal P w K mg base CX0 "_law_exact" j (spEx K S)) : FnOk P w K mg base CX0 (j + 1) f fd ["told", "due"] (spEx K (lift S)) := by
  refine F.ok sc_exact (fun vs H Q E h => ?_) (fun cdv A outer s H vs Q E hr h => ?_)
  · obtain ⟨x, y, d, rfl, _⟩ := h
    rfl
  · obtain ⟨x, y, d, rfl, hx, hy, hS, k⟩ := h
    refine ⟨_,
      (pss_cons (ps_if (pt_val (pe_callB (kisi K) (by rfl) T.n_isinstance (by decide +kernel) (pa_cons (pv 1) (pa_cons (pe_bltn (v := .ty "tuple") (u := .type "tuple") (by rfl) T.n_tuple (by decide +kernel) rfl) pa_nil))))
        (pss_cons (ps_if (PW.pt (pw_or (pt_not (pt_val (pe_callB (kisi K) (by rfl) T.n_isinstance (by decide +kernel) (pa_cons (pv 0) (pa_cons (pe_bltn (v := .ty "tuple") (u := .type "tuple") (by rfl) T.n_tuple (by decide +kernel) rfl) pa_nil))))) (pw_or1 (pt_cmpR op_ne (pe_callB (klen K) (by rfl) T.n_len PySem.boot_len (pa_cons (pv 0) pa_nil)) (pe_callB (klen K) (by rfl) T.n_len PySem.boot_len (pa_cons (pv 1) pa_nil)) (nomark _)))))
          (pss_one (ps_ret pe_bl))
          pss_nil)
        (pss_one (ps_ret (pe_cmpR (keqD K hr.units) (pe_lc (own := [("k", 2)]) (by rfl) sc_exact.nd (pi_range1 (by rfl) T.n_range (pa_cons (pe_callB (klen K) (by rfl) T.n_len PySem.boot_len (pa_cons (pv 1) pa_nil)) pa_nil)) (blkOk_by (own := [("k", 2)]) (by show blkC ["told", "due", "k"] (defScope s_exact) _ _ = true; decide +kernel)) (fun _ _ _ _ _ => (pg_name (i := 2) sc_exact.nd rfl (Or.inl rfl))) (fun _ _ _ _ _ => (pts_one (pt_not (pt_val (pe_cal c_law_exact hr (by rfl) (pa_cons (pe_ix (kix_tup K) (pv 0) (pv 2) (fun _ _ => rfl)) (pa_cons (pe_ix (kix_tup K) (pv 1) (pv 2) (fun _ _ => rfl)) pa_nil))))))) (fun _ _ _ _ _ => (pv 2))) (pe_lst pa_nil) (nomark _)))))
        pss_nil)
      (pss_cons (ps_if (pt_cmpR op_isN (pv 1) pe_non (nomark _))
        (pss_one (ps_ret (pe_cmpR op_isN (pv 0) pe_non (nomark _))))
        pss_nil)
      (pss_cons (ps_if (pt_val (pe_callB (kisi K) (by rfl) T.n_isinstance (by decide +kernel) (pa_cons (pv 1) (pa_cons (pe_bltn (v := .ty "bool") (u := .type "bool") (by rfl) T.n_bool (by decide +kernel) rfl) pa_nil))))
        (pss_one (ps_ret (pe_ifExp (kt_truth K (pv 1) (by intro _; rfl)) (pe_cmpR op_is_bl (pv 0) pe_bl (nomark _)) (pe_cmpR op_is_bl (pv 0) pe_bl (nomark _)))))
        pss_nil)
      (pss_cons (ps_if (pt_val (pe_callB (kisi K) (by rfl) T.n_isinstance (by decide +kernel) (pa_cons (pv 1) (pa_cons (pe_bltn (v := .ty "str") (u := .type "str") (by rfl) T.n_str (by decide +kernel) rfl) pa_nil))))
        (pss_one (ps_ret (pe_and (pe_callB (kisi K) (by rfl) T.n_isinstance (by decide +kernel) (pa_cons (pv 0) (pa_cons (pe_bltn (v := .ty "str") (u := .type "str") (by rfl) T.n_str (by decide +kernel) rfl) pa_nil))) (pe_one (pe_cmpR op_eq (pv 0) (pv 1) (nomark _))))))
        pss_nil)
      (pss_one (ps_ret (pe_and (pe_callB (kisi K) (by rfl) T.n_isinstance (by decide +kernel) (pa_cons (pv 0) (pa_cons (pe_bltn (v := .ty "int") (u := .type "int") (by rfl) T.n_int (by decide +kernel) rfl) pa_nil))) (pe_and (pe_not (pe_callB (kisi K) (by rfl) T.n_isinstance (by decide +kernel) (pa_cons (pv 0) (pa_cons (pe_bltn (v := .ty "bool") (u := .type "bool") (by rfl) T.n_bool (by decide +kernel) rfl) pa_nil)))) (pe_one (pe_cmpR op_eq (pv 0) (pv 1) (nomark _)))))))))))
      , ?_⟩
    walk_at "r"
    refine ⟨_, _, _, _, _, rfl, .ty _, ty_of_dp hy, kit_ty (kb_tuple d), ?_⟩
    refine ⟨_, rfl, ?_⟩
    have kk := k H (Same.refl _)
    cases d with
    | none =>
      cases hx
      cases hy
      walk_at "r"
      exact kk
    | bool b =>
      cases hx
      cases hy
      walk_at "r"
      refine ⟨_, _, _, _, _, rfl, .ty _, ty_of_dp (K := K) (.bl b), kit_ty (kb_bool (.bool b)), ?_⟩
      walk_at "r"
      cases b <;> walk_at "r" <;> exact kk
    | str z =>
      cases hx
      cases hy
      walk_at "r"
      refine ⟨_, _, _, _, _, rfl, .ty _, ty_of_dp (K := K) (.str z), kit_ty (kb_bool (.str z)), ?_⟩
      walk_at "r"
      refine ⟨_, _, _, _, _, rfl, .ty _, ty_of_dp (K := K) (.str z), kit_ty (kb_str (.str z)), ?_⟩
      walk_at "r"
      refine ⟨_, _, _, _, _, rfl, .ty _, ty_of_dp (K := K) (.str z), kit_ty (kb_str (.str z)), ?_⟩
      walk_at "r"
      rw [decide_eq_true rfl]
      exact kk
    | int z =>
      cases hx
      cases hy
      walk_at "r"
      refine ⟨_, _, _, _, _, rfl, .ty _, ty_of_dp (K := K) (.int z), kit_ty (kb_bool (.int z)), ?_⟩
      walk_at "r"
      refine ⟨_, _, _, _, _, rfl, .ty _, ty_of_dp (K := K) (.int z), kit_ty (kb_str (.int z)), ?_⟩
      walk_at "r"
      refine ⟨_, _, _, _, _, rfl, .ty _, ty_of_dp (K := K) (.int z), kit_ty (kb_int (.int z)), ?_⟩
      walk_at "r"
      refine ⟨_, _, _, _, _, rfl, .ty _, ty_of_dp (K := K) (.int z), kit_ty (kb_bool (.int z)), ?_⟩
      walk_at "r"
      rw [decide_eq_true rfl]
      exact kk
    | tuple ds =>
      have hS' : (ds.all S && decide (ds.length ≤ 600)) = true := hS
      rw [Bool.and_eq_true] at hS'
      have hl := of_decide_eq_true hS'.2
      cases hx with
      | tup qx ax =>
        rename_i px xs
        cases hy with
        | tup qy ay =>
          rename_i py ys
          have lx := DpAll.len ax
          have ly := DpAll.len ay
          walk_at "r"
          refine ⟨_, _, _, _, _, rfl, .ty _, ty_of_dp (.tup qx ax), kit_ty (kb_tuple (.tuple ds)), ?_⟩
          walk_at "r"
          refine ⟨_, _, rfl, .inr qx, ?_⟩
          walk_at "r"
          refine ⟨_, _, rfl, .inr qy, ?_⟩
          walk_at "r"
          refine iteB (fun c => ?_) (fun c => ?_)
          · exfalso
            simp [lx, ly] at c
          · walk_at "r"
            refine ⟨_, _, rfl, .inr qy, ?_⟩
            walk_at "r"
            intro D hD
            refine lc_range (lo := 0) (n := ((ys.length : Nat) : Int).toNat) (fun i H' => Same H H' ∧ H' D = some (.lst [])) ⟨same_new hD, upd_same⟩ ?_ ?_
            · rintro i H' hi ⟨s1, e1⟩
              have hi2 : i < ds.length := by omega
              obtain ⟨xv, ex, dx⟩ := DpAll.get' ax (List.getElem?_eq_getElem hi2)
              obtain ⟨yv, ey, dy⟩ := DpAll.get' ay (List.getElem?_eq_getElem hi2)
              have c0 : (0 : Int) + (i : Nat) = ((i : Nat) : Int) := by omega
              refine ⟨rfl, ?_⟩
              walk_at "r"
              refine ⟨_, _, _, _, rfl, rfl, Same.sqT s1 qx, (by rw [c0]; exact atI_nat ex), ?_⟩
              walk_at "r"
              refine ⟨_, _, _, _, rfl, rfl, Same.sqT s1 qy, (by rw [c0]; exact atI_nat ey), ?_⟩
              refine ⟨_, _, _, rfl, Dp.same s1 _ _ dx, Dp.same s1 _ _ dy, List.all_eq_true.mp hS'.1 _ (List.getElem_mem hi2), fun H2 s2 => ?_⟩
              refine ⟨_, rfl, ?_⟩
              exact ⟨s1.trans s2, s2 _ _ e1⟩
            · rintro H' ⟨s1, e1⟩
              refine ⟨(by show 0 ≤ sizeLine; decide), fun p hp => ?_⟩
              refine ⟨.list [], .list [], .lst (SqL.of (same_new hp _ _ e1)) .nil, .lst (SqL.of upd_same) .nil, by decide, by decide, ?_⟩
              exact k _ (s1.trans (same_new hp))
    | _ => cases hS
end
end Z

set_option Elab.async false
set_option linter.all false
set_option maxRecDepth 100000
set_option maxHeartbeats 1200000
namespace Z
open PySem L2
local macro_rules | `(tactic| walk_at "side") => `(tactic| first | omega | (unfold CMul; omega) | (unfold CDiv; omega) | (unfold CDivN; omega) | (unfold CPow; omega) | decide)
local macro_rules | `(tactic| walk_at "lst") => `(tactic| first | exact SqL.of (by assumption) | exact SqL.of upd_same | assumption | exact upd_same)
local macro_rules | `(tactic| walk_at "r1") => `(tactic| first | refine ⟨_, rfl, ?_⟩ | refine ⟨_, _, rfl, rfl, ?_⟩ | refine Or.inl ⟨_, rfl, ?_⟩ | refine And.intro rfl ?_ | refine ⟨_, _, _, _, rfl, rfl, by walk_at "lst", rfl, ?_⟩ | refine ⟨_, _, rfl, Or.inl (by walk_at "lst"), ?_⟩ | refine And.intro (by walk_at "side") ?_)
local macro_rules | `(tactic| walk_at "r") => `(tactic| repeat walk_at "r1")
theorem fl_filter {n : Nat} {p q : Nat → Bool} : (fl n p).filter q = fl n fun a => p a && q a := by
  unfold fl
  rw [List.filter_filter]
  refine List.filter_congr fun a _ => ?_
  rw [Bool.and_comm]
theorem filter_snoc {l : List Nat} {q : Nat → Bool} {y : Nat} : (l ++ [y]).filter q = if q y then l.filter q ++ [y] else l.filter q := by
  rw [List.filter_append]
  by_cases h : q y = true
  · rw [if_pos h, List.filter_cons_of_pos h, List.filter_nil]
  · rw [if_neg h, List.filter_cons_of_neg h, List.filter_nil, List.append_nil]
section
variable {K : PySem.W.Frag} {st D : Addr} {n i : Nat} {vs : List Nat} {σ : L2.St} {H1 : Hp} {Qd : Hp → Prop}
/-- [y for y in l if t(y)] -/
theorem lc_lfilt {tt : TT} {l : List Nat} {q : Nat → Bool} (hl : l.length ≤ 600) (hst : SqL K H1 st (natsV l)) (hD : H1 D = none)
    (hw : ∀ y, wipe ((wipe σ vs).set i (some y)) vs = wipe σ vs) (hi : ((wipe σ vs).set i (some V.non))[i]? = some (some V.non))
    (ht : ∀ y H' Qb, y ∈ l → Same H1 H' → (∀ H2, Same H' H2 → Qb (q y) H2) → tt ((wipe σ vs).set i (some (.int (y : Nat)))) H' Qb)
    (hd : ∀ H', Same H1 H' → H' D = some (.lst (natsV (l.filter q))) → Qd H') :
    ∃ W : Nat → Nat → Hp → Prop, (∃ m, W 0 m (upd H1 D (.lst []))) ∧ ∀ j m H, W j m H →
      ((Itl K st).stop j H ∧ Qd H) ∨ ((Itl K st).go j H ∧ ∃ Nx : Hp → Prop, (∀ H', Nx H' → ∃ m', m' < m ∧ W (j + 1) m' H') ∧ ∀ x H', (Itl K st).yld j H x H' → gName i x (wipe σ vs) H' fun σ2 H2 => wipe σ2 vs = wipe σ vs ∧ tt σ2 H2 fun b H3 =>
        if b = true then tVar i σ2 H3 fun y H4 => ∃ acc, H4 D = some (.lst acc) ∧ acc.length < sizeLine ∧ Nx (upd H4 D (.lst (acc ++ [y]))) else Nx H3) := by
  have hil : i < (wipe σ vs).length := by
    by_cases h : i < (wipe σ vs).length
    · exact h
    · rw [List.getElem?_eq_none (by rw [List.length_set]; omega)] at hi
      cases hi
  refine lc_list (K := K) (a := st) (xs := natsV l) (fun j H' => Same H1 H' ∧ H' D = some (.lst (natsV ((l.take j).filter q)))) ⟨same_new hD, upd_same⟩ (fun j H' _ q => q.1.seq hst) ?_ ?_
  · rintro j x H' hx ⟨s1, e1⟩
    obtain ⟨y, hy, rfl⟩ : ∃ y : Nat, l[j]? = some y ∧ x = .int (y : Int) := by
      unfold natsV at hx
      rw [List.getElem?_map] at hx
      cases e : l[j]? with
      | none =>
        rw [e] at hx
        cases hx
      | some y =>
        rw [e] at hx
        exact ⟨y, rfl, (Option.some.inj hx).symm⟩
    have tk : l.take (j + 1) = l.take j ++ [y] := by
      rw [List.take_add_one, hy]
      rfl
    refine ⟨hw _, ht y H' _ (List.mem_of_getElem? hy) s1 fun H2 s2 => ?_⟩
    have e2 := s2 _ _ e1
    rw [tk, filter_snoc]
    by_cases c : q y = true
    · rw [if_pos c]
      have hlen : ((l.take j).filter q).length ≤ 600 := Nat.le_trans (List.length_filter_le _ _) (Nat.le_trans (by rw [List.length_take]; exact Nat.min_le_right _ _) hl)
      refine ⟨_, List.getElem?_set_self hil, _, e2, small1000 (by rw [natsV_len]; omega), same_mut (s1.trans s2) hD, ?_⟩
      rw [upd_same, natsV_snoc, if_pos c]
    · rw [if_neg c]
      refine ⟨s1.trans s2, ?_⟩
      rw [e2, if_neg c]
  · rintro H' ⟨s1, e1⟩
    rw [natsV_len, List.take_length] at e1
    exact hd H' s1 e1
/-- [y for y in range(n) if t(y)] -/
theorem lc_rfilt {tt : TT} {p : Nat → Bool} (hn : n ≤ 600) (hD : H1 D = none)
    (hw : ∀ y, wipe ((wipe σ vs).set i (some y)) vs = wipe σ vs) (hi : ((wipe σ vs).set i (some V.non))[i]? = some (some V.non))
    (ht : ∀ y H' Qb, y < n → Same H1 H' → (∀ H2, Same H' H2 → Qb (p y) H2) → tt ((wipe σ vs).set i (some (.int (0 + (y : Nat))))) H' Qb)
    (hd : ∀ H', Same H1 H' → H' D = some (.lst (natsV (fl n p))) → Qd H') :
    ∃ W : Nat → Nat → Hp → Prop, (∃ m, W 0 m (upd H1 D (.lst []))) ∧ ∀ j m H, W j m H →
      ((Itr 0 n).stop j H ∧ Qd H) ∨ ((Itr 0 n).go j H ∧ ∃ Nx : Hp → Prop, (∀ H', Nx H' → ∃ m', m' < m ∧ W (j + 1) m' H') ∧ ∀ x H', (Itr 0 n).yld j H x H' → gName i x (wipe σ vs) H' fun σ2 H2 => wipe σ2 vs = wipe σ vs ∧ tt σ2 H2 fun b H3 =>
        if b = true then tVar i σ2 H3 fun y H4 => ∃ acc, H4 D = some (.lst acc) ∧ acc.length < sizeLine ∧ Nx (upd H4 D (.lst (acc ++ [y]))) else Nx H3) := by
  have hil : i < (wipe σ vs).length := by
    by_cases h : i < (wipe σ vs).length
    · exact h
    · rw [List.getElem?_eq_none (by rw [List.length_set]; omega)] at hi
      cases hi
  refine lc_range (lo := 0) (n := n) (fun j H' => Same H1 H' ∧ H' D = some (.lst (natsV (fl j p)))) ⟨same_new hD, upd_same⟩ ?_ ?_
  · rintro j H' hj ⟨s1, e1⟩
    refine ⟨hw _, ht j H' _ hj s1 fun H2 s2 => ?_⟩
    have e2 := s2 _ _ e1
    by_cases c : p j = true
    · rw [if_pos c]
      refine ⟨_, List.getElem?_set_self hil, _, e2, small1000 (by rw [natsV_len]; have := fl_le (n := j) (p := p); omega), same_mut (s1.trans s2) hD, ?_⟩
      have c0 : (0 : Int) + (j : Nat) = ((j : Nat) : Int) := by omega
      rw [upd_same, c0, natsV_snoc, fl_succ, if_pos c]
    · rw [if_neg c]
      refine ⟨s1.trans s2, ?_⟩
      rw [e2, fl_succ, if_neg c]
  · rintro H' ⟨s1, e1⟩
    exact hd H' s1 e1
end
abbrev s_over : Stmt := top 19
abbrev s_edg : Stmt := top 20
abbrev s_lab : Stmt := top 25
abbrev s_any : Stmt := top 30
def spOver : Sp := fun vs H Q _ => ∃ (p : Addr) (n x : Nat) (B : Nat → Nat → Bool) (rs : List Addr), vs = [.ref p, .int (x : Int)] ∧ x < n ∧ n ≤ 24 ∧ MatAt H p n B rs ∧ ∀ r H', Same H H' → H r = none → H' r = some (.lst (natsV (fl n (cvB n B x)))) → Q (.ref r) H'
def spEdg : Sp := fun vs H Q _ => ∃ (p : Addr) (n : Nat) (B : Nat → Nat → Bool) (rs : List Addr), vs = [.ref p] ∧ n ≤ 24 ∧ MatAt H p n B rs ∧ ∀ q as H', Same H H' → H q = none → PrsAt H' q as (edgesL n (cvB n B)) → Q (.ref q) H'
def natsD (l : List Nat) : List PyData := l.map fun (y : Nat) => .int (y : Int)
theorem natsD_dp {K : PySem.W.Frag} {H : Hp} : ∀ l : List Nat, DpAll K H (natsV l) (natsD l)
  | [] => .nil
  | _ :: l => .cons (.int _) (natsD_dp l)
def spLab (K : PySem.W.Frag) : Sp := fun vs H Q _ => ∃ (p : Addr) (n x : Nat) (B : Nat → Nat → Bool) (rs : List Addr), vs = [.ref p, .int (x : Int)] ∧ x < n ∧ n ≤ 24 ∧ MatAt H p n B rs ∧ ∀ r H', Same H H' → Dp K H' (.ref r) (.tuple (natsD (fl n (sB B x)))) → Q (.ref r) H'
def spAny : Sp := fun vs H Q _ => ∃ (h ha : Addr), vs = [.ref h] ∧ Hnd H h ha ∧ ∀ p n B rk rs H', Keep h H H' → Hnd H' h ha → PO n B rk → MatAt H' p n B rs → Q (.ref p) H'
theorem atI_in {α : Type} {xs : List α} {i : Int} (h0 : 0 ≤ i) (h1 : i < xs.length) : ∃ v, atI xs i = some v ∧ v ∈ xs := by
  have hi : i.toNat < xs.length := by omega
  have e : i = ((i.toNat : Nat) : Int) := by omega
  obtain ⟨v, hv⟩ : ∃ v, xs[i.toNat]? = some v := ⟨_, List.getElem?_eq_getElem hi⟩
  refine ⟨v, ?_, List.mem_of_getElem? hv⟩
  rw [e]
  exact atI_nat hv
theorem dec_nat {a b : Nat} : decide (V.int (a : Int) = V.int (b : Int)) = decide (a = b) := by
  rw [dec_i]
  refine bool_ext ?_
  rw [decide_eq_true_eq, decide_eq_true_eq]
  omega
section
variable {P : Program} {w : World} {K : PySem.W.Frag} {mg : Str → Option Value} {base : Heap}
theorem sc_over : FnScope ["below", "x", "higher", "y", "z"] ["below", "x"] (defScope s_over) := ⟨rfl, rfl, rfl, by decide +kernel, rfl, by decide +kernel, by decide +kernel⟩
theorem ok_over {f : Addr} {fd : FuncData} (F : Fun K "_law_over" "_law_over" s_over f fd) (T : Bl mg) : FnOk P w K mg base CX0 1 f fd ["below", "x"] spOver := by
  refine F.ok sc_over (fun vs H Q E h => ?_) (fun cdv A outer s H vs Q E hr h => ?_)
  · obtain ⟨p, n, x, B, rs, rfl, _⟩ := h
    rfl
  · obtain ⟨p, n, x, B, rs, rfl, hx, h24, m, k⟩ := h
    have c0 : ∀ z : Nat, (0 : Int) + (z : Nat) = ((z : Nat) : Int) := fun z => by omega
    refine ⟨_,
      (pss_cons (ps_set (i := 2) sc_over.nd rfl (Or.inr rfl) (pe_lc (own := [("y", 3)]) (by rfl) sc_over.nd (pi_range1 (by rfl) T.n_range (pa_cons (pe_callB (klen K) (by rfl) T.n_len PySem.boot_len (pa_cons (pv 0) pa_nil)) pa_nil)) (blkOk_by (own := [("y", 3)]) (by show blkC ["below", "x", "higher", "y", "z"] (defScope s_over) _ _ = true; decide +kernel)) (fun _ _ _ _ _ => (pg_name (i := 3) sc_over.nd rfl (Or.inl rfl))) (fun _ _ _ _ _ => (pts_one (PW.pt (pw_and (pt_cmpR op_ne (pv 3) (pv 1) (nomark _)) (pw_and1 (pt_val (pe_ix (kix_list K) (pe_ix (kix_list K) (pv 0) (pv 1) (fun _ _ => rfl)) (pv 3) (fun _ _ => rfl)))))))) (fun _ _ _ _ _ => (pv 3))))
      (pss_one (ps_ret (pe_lc (own := [("y", 3)]) (by rfl) sc_over.nd (kpi_list K (pv 2)) (blkOk_by (own := [("y", 3)]) (by show blkC ["below", "x", "higher", "y", "z"] (defScope s_over) _ _ = true; decide +kernel)) (fun _ _ _ _ _ => (pg_name (i := 3) sc_over.nd rfl (Or.inr rfl))) (fun _ _ _ _ _ => (pts_one (pt_not (kt_truth K (pe_lc (own := [("z", 4)]) (by rfl) sc_over.nd (kpi_list K (pv 2)) (blkOk_by (own := [("z", 4)]) (by show blkC ["below", "x", "higher", "y", "z"] (relS _ ((defScope s_over))) _ _ = true; decide +kernel)) (fun _ _ _ _ _ => (pg_name (i := 4) sc_over.nd rfl (Or.inl rfl))) (fun _ _ _ _ _ => (pts_one (PW.pt (pw_and (pt_cmpR op_ne (pv 4) (pv 3) (nomark _)) (pw_and1 (pt_val (pe_ix (kix_list K) (pe_ix (kix_list K) (pv 0) (pv 4) (fun _ _ => rfl)) (pv 3) (fun _ _ => rfl)))))))) (fun _ _ _ _ _ => (pv 4))) (by intro _; rfl))))) (fun _ _ _ _ _ => (pv 3))))))
      , ?_⟩
    walk_at "r"
    refine ⟨p, _, rfl, .inl (SqL.of m.top), ?_⟩
    rw [List.length_map, m.len]
    walk_at "r"
    intro D hD
    refine lc_rfilt (n := n) (p := sB B x) (by omega) hD (fun _ => rfl) rfl (fun y H1 Qb hy s1 q => ?_) (fun H1 s1 e1 => ?_)
    · have m1 := m.same s1
      obtain ⟨r, hr1, har, her⟩ := m1.get hx
      walk_at "r"
      rw [c0, dec_nat]
      refine iteB (fun c => ?_) (fun c => ?_)
      · refine ⟨_, rfl, _, rfl, _, _, _, _, rfl, rfl, SqL.of m1.top, har, _, rfl, _, _, _, _, rfl, rfl, SqL.of her, rowV_at hy, _, rfl, ?_⟩
        have e : sB B x y = B x y := by
          have c : (!decide (y = x)) = true := c
          unfold sB
          rw [show decide (y ≠ x) = true from by simpa using c]
          rfl
        have q1 := q H1 (Same.refl _)
        rw [e] at q1
        exact q1
      · have e : sB B x y = false := by
          have c : (!decide (y = x)) = false := c
          unfold sB
          rw [show decide (y ≠ x) = false from by simpa using c]
          rfl
        have q1 := q H1 (Same.refl _)
        rw [e] at q1
        exact q1
    · walk_at "r"
      have m1 := m.same s1
      refine ⟨⟨_, SqL.of e1⟩, fun D2 hD2 => ?_⟩
      refine lc_lfilt (l := fl n (sB B x)) (q := fun y => (fl n fun z => sB B x z && (decide (z ≠ y) && B z y)).isEmpty) (Nat.le_trans fl_le (by omega)) (SqL.of e1) hD2 (fun _ => rfl) rfl (fun y H2 Qb hy s2 q => ?_) (fun H2 s2 e2 => ?_)
      · have hyn := (fl_mem.mp hy).1
        have m2 := m1.same s2
        walk_at "r"
        refine ⟨⟨_, SqL.of (s2 _ _ e1)⟩, fun D3 hD3 => ?_⟩
        refine lc_lfilt (l := fl n (sB B x)) (q := fun z => decide (z ≠ y) && B z y) (Nat.le_trans fl_le (by omega)) (SqL.of (s2 _ _ e1)) hD3 (fun _ => rfl) rfl (fun z H3 Qc hz s3 q3 => ?_) (fun H3 s3 e3 => ?_)
        · have hzn := (fl_mem.mp hz).1
          have m3 := m2.same s3
          obtain ⟨r, hr1, har, her⟩ := m3.get hzn
          walk_at "r"
          rw [dec_nat]
          refine iteB (fun c => ?_) (fun c => ?_)
          · refine ⟨_, rfl, _, rfl, _, _, _, _, rfl, rfl, SqL.of m3.top, har, _, rfl, _, _, _, _, rfl, rfl, SqL.of her, rowV_at hyn, _, rfl, ?_⟩
            have e : (decide (z ≠ y) && B z y) = B z y := by
              have c : (!decide (z = y)) = true := c
              rw [show decide (z ≠ y) = true from by simpa using c]
              rfl
            have q1 := q3 H3 (Same.refl _)
            rw [e] at q1
            exact q1
          · have e : (decide (z ≠ y) && B z y) = false := by
              have c : (!decide (z = y)) = false := c
              rw [show decide (z ≠ y) = false from by simpa using c]
              rfl
            have q1 := q3 H3 (Same.refl _)
            rw [e] at q1
            exact q1
        · rw [fl_filter] at e3
          refine ⟨_, .inl ⟨_, SqL.of e3, rfl⟩, ?_⟩
          have e : (!(!(natsV (fl n fun z => sB B x z && (decide (z ≠ y) && B z y))).isEmpty)) = (fl n fun z => sB B x z && (decide (z ≠ y) && B z y)).isEmpty := by
            rw [Bool.not_not]
            cases fl n (fun z => sB B x z && (decide (z ≠ y) && B z y)) <;> rfl
          have q1 := q H3 s3
          rw [← e] at q1
          exact q1
      · rw [fl_filter] at e2
        exact k D2 H2 (s1.trans s2) (s1.free hD2) e2
theorem sc_lab : FnScope ["below", "x", "y"] ["below", "x"] (defScope s_lab) := ⟨rfl, rfl, rfl, by decide +kernel, rfl, by decide +kernel, by decide +kernel⟩
theorem ok_lab {f : Addr} {fd : FuncData} (F : Fun K "_law_above" "_law_above" s_lab f fd) (T : Bl mg) : FnOk P w K mg base CX0 1 f fd ["below", "x"] (spLab K) := by
  refine F.ok sc_lab (fun vs H Q E h => ?_) (fun cdv A outer s H vs Q E hr h => ?_)
  · obtain ⟨p, n, x, B, rs, rfl, _⟩ := h
    rfl
  · obtain ⟨p, n, x, B, rs, rfl, hx, h24, m, k⟩ := h
    have c0 : ∀ z : Nat, (0 : Int) + (z : Nat) = ((z : Nat) : Int) := fun z => by omega
    refine ⟨_,
      (pss_one (ps_ret (pe_callTy (ktuple_of K) (by rfl) T.n_tuple (by decide +kernel) (pa_cons (pe_lc (own := [("y", 2)]) (by rfl) sc_lab.nd (pi_range1 (by rfl) T.n_range (pa_cons (pe_callB (klen K) (by rfl) T.n_len PySem.boot_len (pa_cons (pv 0) pa_nil)) pa_nil)) (blkOk_by (own := [("y", 2)]) (by show blkC ["below", "x", "y"] (defScope s_lab) _ _ = true; decide +kernel)) (fun _ _ _ _ _ => (pg_name (i := 2) sc_lab.nd rfl (Or.inl rfl))) (fun _ _ _ _ _ => (pts_one (PW.pt (pw_and (pt_cmpR op_ne (pv 2) (pv 1) (nomark _)) (pw_and1 (pt_val (pe_ix (kix_list K) (pe_ix (kix_list K) (pv 0) (pv 1) (fun _ _ => rfl)) (pv 2) (fun _ _ => rfl)))))))) (fun _ _ _ _ _ => (pv 2))) pa_nil))))
      , ?_⟩
    walk_at "r"
    refine ⟨p, _, rfl, .inl (SqL.of m.top), ?_⟩
    rw [List.length_map, m.len]
    walk_at "r"
    intro D hD
    refine lc_rfilt (n := n) (p := sB B x) (by omega) hD (fun _ => rfl) rfl (fun y H1 Qb hy s1 q => ?_) (fun H1 s1 e1 => ?_)
    · have m1 := m.same s1
      obtain ⟨r, hr1, har, her⟩ := m1.get hx
      walk_at "r"
      rw [c0, dec_nat]
      refine iteB (fun c => ?_) (fun c => ?_)
      · refine ⟨_, rfl, _, rfl, _, _, _, _, rfl, rfl, SqL.of m1.top, har, _, rfl, _, _, _, _, rfl, rfl, SqL.of her, rowV_at hy, _, rfl, ?_⟩
        have e : sB B x y = B x y := by
          have c : (!decide (y = x)) = true := c
          unfold sB
          rw [show decide (y ≠ x) = true from by simpa using c]
          rfl
        have q1 := q H1 (Same.refl _)
        rw [e] at q1
        exact q1
      · have e : sB B x y = false := by
          have c : (!decide (y = x)) = false := c
          unfold sB
          rw [show decide (y ≠ x) = false from by simpa using c]
          rfl
        have q1 := q H1 (Same.refl _)
        rw [e] at q1
        exact q1
    · walk_at "r"
      refine ⟨_, _, rfl, .inl ⟨SqL.of e1, fun l hl => ?_⟩⟩
      exact k l _ (s1.trans (same_new hl)) (.tup (SqT.of upd_same) (natsD_dp _))
theorem sc_any : FnScope ["hand", "size", "n", "pairs", "below"] ["hand"] (defScope s_any) := ⟨rfl, rfl, rfl, by decide +kernel, rfl, by decide +kernel, by decide +kernel⟩
theorem ok_any {f : Addr} {fd : FuncData} (F : Fun K "_law_any_order" "_law_any_order" s_any f fd) (T : Bl mg) (c_law_draw : Cal P w K mg base CX0 "_law_draw" 2 spDraw) (c_law_order : Cal P w K mg base CX0 "_law_order" 4 (spLOr2 K)) : FnOk P w K mg base CX0 5 f fd ["hand"] spAny := by
  refine F.ok sc_any (fun vs H Q E h => ?_) (fun cdv A outer s H vs Q E hr h => ?_)
  · obtain ⟨h, ha, rfl, _⟩ := h
    rfl
  · obtain ⟨h, ha, rfl, hn, k⟩ := h
    refine ⟨_,
      (pss_cons (ps_set (i := 1) sc_any.nd rfl (Or.inl rfl) (pe_ix (kix_list K) (pe_lst (pa_cons pe_int (pa_cons pe_int (pa_cons pe_int (pa_cons pe_int (pa_cons pe_int (pa_cons pe_int (pa_cons pe_int (pa_cons pe_int pa_nil))))))))) (pe_cal c_law_draw (hr.mono (by decide)) (by rfl) (pa_cons (pv 0) (pa_cons pe_int pa_nil))) (fun _ _ => rfl)))
      (pss_cons (ps_if (pt_cmpR op_eq (pv 1) pe_int (nomark _))
        (pss_one (ps_ret (pe_lst (pa_cons (pe_lst (pa_cons pe_bl pa_nil)) pa_nil))))
        pss_nil)
      (pss_cons (ps_asg (pe_cal c_law_order (hr.mono (by decide)) (by rfl) (pa_cons (pv 0) (pa_cons (pv 1) pa_nil))) (pg_tup (by rfl) (pgs_cons (pg_name (i := 2) sc_any.nd rfl (Or.inl rfl)) (pgs_cons (pg_name (i := 3) sc_any.nd rfl (Or.inl rfl)) (pgs_cons (pg_name (i := 4) sc_any.nd rfl (Or.inl rfl)) pgs_nil)))))
      (pss_one (ps_ret (pv 4))))))
      , ?_⟩
    walk_at "r"
    intro l hl
    walk_at "r"
    refine ⟨h, ha, _, rfl, hn.new hl, by omega, by omega, fun dd H1 dd0 dd1 k1 n1 _ => ?_⟩
    obtain ⟨xv, exv, mxv⟩ := atI_in (xs := [V.int 0, .int 24, .int 4, .int 4, .int 5, .int 5, .int 6, .int 9]) dd0 dd1
    have k01 : Keep h H H1 := (Keep.new hl).trans k1
    refine ⟨_, _, _, _, rfl, rfl, SqL.of (k1 _ _ upd_same (hn.ne hl)), exv, ?_⟩
    obtain ⟨z, rfl, hz⟩ : ∃ z : Int, xv = .int z ∧ (z = 0 ∨ (3 ≤ z ∧ z ≤ 24)) := by
      simp only [List.mem_cons, List.not_mem_nil, or_false] at mxv
      rcases mxv with rfl | rfl | rfl | rfl | rfl | rfl | rfl | rfl <;> exact ⟨_, rfl, by omega⟩
    walk_at "r"
    refine iteB (fun c => ?_) (fun c => ?_)
    · walk_at "r"
      intro r hr1
      have n2 := n1.new (o := .lst [V.bl true]) hr1
      have k2 : Keep h H1 (upd H1 r (.lst [V.bl true])) := Keep.new hr1
      have e2 : upd H1 r (.lst [V.bl true]) r = some (.lst [V.bl true]) := upd_same
      generalize upd H1 r (.lst [V.bl true]) = H2 at n2 k2 e2 ⊢
      walk_at "r"
      refine ⟨(by show 1 ≤ sizeLine; decide), fun p hp => ?_⟩
      have pr : p ≠ r := ne_of_none' e2 hp
      refine k p 1 (fun _ _ => true) id [r] _ (k01.trans (k2.trans (Keep.new hp))) (n2.new hp) ⟨by omega, by omega, fun _ _ => rfl, fun _ _ _ _ _ _ _ _ => rfl, fun _ _ => rfl, fun x y hx hy ne _ => by omega⟩ ⟨upd_same, rfl, fun x r' e => ?_, by simp, by simpa using pr⟩
      cases x with
      | zero =>
        simp at e
        subst e
        rw [upd_ne pr.symm, e2]
        rfl
      | succ x => simp at e
    · have z0 := dec_i_f c
      walk_at "r"
      refine ⟨h, ha, z, rfl, n1, by omega, by omega, fun p q b rs n B rk H2 k2 n2 po ep m2 => ?_⟩
      refine ⟨p, _, rfl, SqT.of ep, rfl, _, _, rfl, _, _, rfl, _, _, rfl, rfl, ?_⟩
      walk_at "r"
      exact k b n B rk rs H2 (k01.trans k2) n2 po m2
end
end Z

set_option Elab.async false
set_option linter.all false
set_option maxRecDepth 100000
set_option maxHeartbeats 1600000
namespace Z
open PySem L2
local macro_rules | `(tactic| walk_at "side") => `(tactic| first | omega | (unfold CMul; omega) | (unfold CDiv; omega) | (unfold CDivN; omega) | (unfold CPow; omega) | decide)
local macro_rules | `(tactic| walk_at "lst") => `(tactic| first | exact SqL.of (by assumption) | exact SqL.of upd_same | assumption | exact upd_same)
local macro_rules | `(tactic| walk_at "r1") => `(tactic| first | refine ⟨_, rfl, ?_⟩ | refine ⟨_, _, rfl, rfl, ?_⟩ | refine Or.inl ⟨_, rfl, ?_⟩ | refine And.intro rfl ?_ | refine ⟨_, _, _, _, rfl, rfl, by walk_at "lst", rfl, ?_⟩ | refine ⟨_, _, rfl, Or.inl (by walk_at "lst"), ?_⟩ | refine And.intro (by walk_at "side") ?_)
local macro_rules | `(tactic| walk_at "r") => `(tactic| repeat walk_at "r1")
/-- two lists of couples put together -/
theorem PrsAt.cat {H : Hp} {q b : Addr} {as bs : List Addr} {prs qrs : List (Nat × Nat)} (p : PrsAt H q as prs) (r : PrsAt H b bs qrs) : PrsAt (upd H q (.lst (as.map V.ref ++ bs.map V.ref))) q (as ++ bs) (prs ++ qrs) := by
  have nq : ∀ c w, H c = tpO w → c ≠ q := fun c w eb n => by
    rw [n, p.top] at eb
    cases eb
  refine ⟨by rw [upd_same, List.map_append], ?_⟩
  rw [List.map_append, List.map_append]
  refine congr (congrArg _ (map_same p.its fun c mb o eb => ?_)) (map_same r.its fun c mb o eb => ?_)
  · obtain ⟨w, e2⟩ := p.mem mb
    rw [upd_ne (nq c w e2)]
    exact eb
  · obtain ⟨w, e2⟩ := r.mem mb
    rw [upd_ne (nq c w e2)]
    exact eb
theorem edges_step {c : Nat → Nat → Bool} {n k : Nat} : ((List.range (k + 1)).flatMap fun s => (fl n (c s)).map fun t => (s, t)) = ((List.range k).flatMap fun s => (fl n (c s)).map fun t => (s, t)) ++ (fl n (c k)).map fun t => (k, t) := by
  rw [List.range_succ, List.flatMap_append]
  simp
section
variable {P : Program} {w : World} {K : PySem.W.Frag} {mg : Str → Option Value} {base : Heap}
theorem sc_edg : FnScope ["below", "found", "x", "y"] ["below"] (defScope s_edg) := ⟨rfl, rfl, rfl, by decide +kernel, rfl, by decide +kernel, by decide +kernel⟩
theorem ok_edg {f : Addr} {fd : FuncData} (F : Fun K "_law_edges" "_law_edges" s_edg f fd) (T : Bl mg) (c_law_over : Cal P w K mg base CX0 "_law_over" 1 spOver) : FnOk P w K mg base CX0 2 f fd ["below"] spEdg := by
  refine F.ok sc_edg (fun vs H Q E h => ?_) (fun cdv A outer s H vs Q E hr h => ?_)
  · obtain ⟨p, n, B, rs, rfl, _⟩ := h
    rfl
  · obtain ⟨p, n, B, rs, rfl, h24, m, k⟩ := h
    have c0 : ∀ z : Nat, (0 : Int) + (z : Nat) = ((z : Nat) : Int) := fun z => by omega
    refine ⟨_,
      (pss_cons (ps_set (i := 1) sc_edg.nd rfl (Or.inl rfl) (pe_lst pa_nil))
      (pss_cons (ps_for PassesOwn.never rfl (pi_range1 (by rfl) T.n_range (pa_cons (pe_callB (klen K) (by rfl) T.n_len PySem.boot_len (pa_cons (pv 0) pa_nil)) pa_nil)) (pg_name (i := 2) sc_edg.nd rfl (Or.inr rfl))
        (pss_one (ps_expr (pe_bm PySem.F.plainAttrs_list PySem.F.slot_list_extend PySem.F.type_list_extend mt_extend (pv 1) (pa_cons (pe_lc (own := [("y", 3)]) (by rfl) sc_edg.nd (kpi_list K (pe_cal c_law_over (hr.mono (by decide)) (by rfl) (pa_cons (pv 0) (pa_cons (pv 2) pa_nil)))) (blkOk_by (own := [("y", 3)]) (by show blkC ["below", "found", "x", "y"] (defScope s_edg) _ _ = true; decide +kernel)) (fun _ _ _ _ _ => (pg_name (i := 3) sc_edg.nd rfl (Or.inl rfl))) (fun _ _ _ _ _ => pts_nil) (fun _ _ _ _ _ => (pe_tup (pa_cons (pv 2) (pa_cons (pv 3) pa_nil))))) pa_nil)))))
      (pss_one (ps_ret (pv 1)))))
      , ?_⟩
    walk_at "r"
    intro q hq
    walk_at "r"
    have m1 := m.same (same_new (o := .lst []) hq)
    refine ⟨p, _, rfl, .inl (SqL.of m1.top), ?_⟩
    rw [List.length_map, m.len]
    walk_at "r"
    refine for_range (lo := 0) (n := n) (fun i σ H' => ∃ (v2 v3 : Option V) (as : List Addr), σ = [some (.ref p), some (.ref q), v2, v3] ∧ Same H H' ∧ PrsAt H' q as ((List.range i).flatMap fun s => (fl n (cvB n B s)).map fun t => (s, t))) ⟨none, none, [], rfl, same_new hq, ⟨upd_same, rfl⟩⟩ ?_ ?_
    · rintro x σ H2 hx ⟨v2, v3, as, rfl, s2, p2⟩
      have m2 := m.same s2
      have l2 := p2.len
      have b2 : ((List.range x).flatMap fun s => (fl n (cvB n B s)).map fun t => (s, t)).length ≤ 600 := by
        have z := edges_len (c := fun s => fl n (cvB n B s)) (fun s => Nat.le_trans (fl_le (n := n) (p := cvB n B s)) h24) x
        omega
      walk_at "r"
      refine ⟨.inl ⟨rfl, _, SqL.of p2.top⟩, ?_⟩
      walk_at "r"
      refine ⟨p, n, x, B, rs, by rw [c0]; rfl, hx, h24, m2, fun r H3 s3 hr3 e3 => ?_⟩
      refine ⟨r, rfl, ⟨_, SqL.of e3⟩, fun D hD => lc_list (K := K) (a := r) (xs := natsV (fl n (cvB n B x))) (fun j H' => ∃ bs, Same H3 H' ∧ PrsAt H' D bs (((fl n (cvB n B x)).take j).map fun t => (x, t))) ⟨[], same_new hD, ⟨upd_same, rfl⟩⟩ (fun j H' _ z => by
        obtain ⟨_, s4, _⟩ := z
        exact SqL.of (s4 _ _ e3)) ?_ ?_⟩
      · rintro j yv H4 hy ⟨bs, s4, p4⟩
        obtain ⟨y, hy2, rfl⟩ : ∃ y : Nat, (fl n (cvB n B x))[j]? = some y ∧ yv = .int (y : Int) := by
          unfold natsV at hy
          rw [List.getElem?_map] at hy
          cases e : (fl n (cvB n B x))[j]? with
          | none =>
            rw [e] at hy
            cases hy
          | some y =>
            rw [e] at hy
            exact ⟨y, rfl, (Option.some.inj hy).symm⟩
        refine ⟨rfl, ?_⟩
        walk_at "r"
        refine ⟨(by show 2 ≤ sizeLine; decide), fun tp htp => ?_⟩
        have et : upd H4 tp (.tup [V.int (0 + (x : Nat)), V.int (y : Int)]) tp = tpO (x, y) := by
          rw [upd_same, c0]
          rfl
        have p5 := p4.same (same_new (o := .tup [V.int (0 + (x : Nat)), V.int (y : Int)]) htp)
        have l4 := p4.len
        rw [List.length_map, List.length_take] at l4
        have l5 : (fl n (cvB n B x)).length ≤ n := fl_le
        have tk : ((fl n (cvB n B x)).take (j + 1)).map (fun t => (x, t)) = ((fl n (cvB n B x)).take j).map (fun t => (x, t)) ++ [(x, y)] := by
          rw [List.take_add_one, hy2, List.map_append]
          rfl
        refine ⟨_, p5.top, small1000 (by rw [List.length_map]; omega), bs ++ [tp], same_mut (s4.trans (same_new htp)) hD, ?_⟩
        rw [tk]
        exact p5.push et
      · rintro H4 ⟨bs, s4, p4⟩
        rw [natsV_len, List.take_length] at p4
        have p2' := p2.same (s3.trans s4)
        have l4 := p4.len
        rw [List.length_map] at l4
        have l5 : (fl n (cvB n B x)).length ≤ n := fl_le
        refine ⟨q, D, _, _, rfl, rfl, p2'.top, p4.top, (by exact Nat.le_of_lt (small1000 (by rw [List.length_map, List.length_map]; omega))), ?_⟩
        refine ⟨_, _, as ++ bs, rfl, same_mut (s2.trans (s3.trans s4)) hq, ?_⟩
        rw [edges_step]
        exact p2'.cat p4
    · rintro σ H2 ⟨v2, v3, as, rfl, s2, p2⟩
      walk_at "r"
      exact k q as H2 s2 hq p2
end
end Z

set_option Elab.async false
set_option linter.all false
set_option maxRecDepth 100000
set_option maxHeartbeats 1600000
namespace Z
open PySem L2
local macro_rules | `(tactic| walk_at "side") => `(tactic| first | omega | (unfold CMul; omega) | (unfold CDiv; omega) | (unfold CDivN; omega) | (unfold CPow; omega) | decide)
local macro_rules | `(tactic| walk_at "lst") => `(tactic| first | exact SqL.of (by assumption) | exact SqL.of upd_same | assumption | exact upd_same)
local macro_rules | `(tactic| walk_at "r1") => `(tactic| first | refine ⟨_, rfl, ?_⟩ | refine ⟨_, _, rfl, rfl, ?_⟩ | refine Or.inl ⟨_, rfl, ?_⟩ | refine And.intro rfl ?_ | refine ⟨_, _, _, _, rfl, rfl, by walk_at "lst", rfl, ?_⟩ | refine ⟨_, _, rfl, Or.inl (by walk_at "lst"), ?_⟩ | refine And.intro (by walk_at "side") ?_)
local macro_rules | `(tactic| walk_at "r") => `(tactic| repeat walk_at "r1")
inductive TpA (H : Hp) : List V → List (Nat × Nat) → Prop
  | nil : TpA H [] []
  | cons {a : Addr} {z : Nat × Nat} {vs : List V} {zs : List (Nat × Nat)} : H a = tpO z → TpA H vs zs → TpA H (.ref a :: vs) (z :: zs)
theorem TpA.of {H : Hp} : ∀ {as : List Addr} {prs : List (Nat × Nat)}, as.map H = prs.map tpO → TpA H (as.map V.ref) prs
  | [], [], _ => .nil
  | a :: as, z :: prs, e => by
    rw [List.map_cons, List.map_cons] at e
    injection e with e1 e2
    exact .cons e1 (TpA.of e2)
  | [], _ :: _, e => by cases e
  | _ :: _, [], e => by cases e
theorem TpA.perm {H : Hp} {ws vs : List V} (p : ws.Perm vs) : ∀ {zs : List (Nat × Nat)}, TpA H vs zs → ∃ es, TpA H ws es ∧ es.Perm zs := by
  induction p with
  | nil => exact fun h => ⟨_, h, .refl _⟩
  | cons x _ ih =>
    rintro _ (_ | ⟨a, c⟩)
    obtain ⟨es, h1, h2⟩ := ih c
    exact ⟨_, .cons a h1, h2.cons _⟩
  | swap x y l =>
    rintro _ (_ | ⟨a, (_ | ⟨a2, c⟩)⟩)
    exact ⟨_, .cons a2 (.cons a c), .swap _ _ _⟩
  | trans _ _ ih1 ih2 =>
    intro zs h
    obtain ⟨es, h1, h2⟩ := ih2 h
    obtain ⟨fs, h3, h4⟩ := ih1 h1
    exact ⟨fs, h3, h4.trans h2⟩
theorem TpA.len {H : Hp} : ∀ {vs : List V} {zs : List (Nat × Nat)}, TpA H vs zs → vs.length = zs.length
  | _, _, .nil => rfl
  | _, _, .cons _ c => congrArg (· + 1) (TpA.len c)
theorem TpA.get {H : Hp} : ∀ {vs : List V} {zs : List (Nat × Nat)} {j : Nat} {v : V}, TpA H vs zs → vs[j]? = some v → ∃ a z, v = .ref a ∧ zs[j]? = some z ∧ H a = tpO z
  | _, _, j, v, .nil, h => by simp at h
  | _, _, 0, v, .cons e _, h => by
    simp at h
    exact ⟨_, _, h.symm, rfl, e⟩
  | _, _, j + 1, v, .cons _ c, h => by
    obtain ⟨a, z, h1, h2, h3⟩ := TpA.get (j := j) c (by simpa using h)
    exact ⟨a, z, h1, by simpa using h2, h3⟩
theorem tp_ne {H : Hp} {h ha a : Addr} {z : Nat × Nat} (hn : Hnd H h ha) (e : H a = tpO z) : a ≠ h := fun q => by
  obtain ⟨cs, i, r, t, e1, _⟩ := hn.ex
  rw [q, e1] at e
  cases e
theorem TpA.keep {H H' : Hp} {h ha : Addr} (k : Keep h H H') (hn : Hnd H h ha) : ∀ {vs : List V} {zs : List (Nat × Nat)}, TpA H vs zs → TpA H' vs zs
  | _, _, .nil => .nil
  | _, _, .cons e c => .cons (k _ _ e (tp_ne hn e)) (TpA.keep k hn c)
/-- a list of pairs, each a new list or a tuple; H0 the heap before -/
inductive ItP (H0 H : Hp) : List V → List PyData → List (Nat × Nat) → Prop
  | nil : ItP H0 H [] [] []
  | lst {a : Addr} {z : Nat × Nat} {vs : List V} {ds : List PyData} {zs : List (Nat × Nat)} : H0 a = none → H a = some (.lst [.int (z.1 : Int), .int (z.2 : Int)]) → ItP H0 H vs ds zs → ItP H0 H (.ref a :: vs) (.list [.int (z.1 : Int), .int (z.2 : Int)] :: ds) (z :: zs)
  | tup {a : Addr} {z : Nat × Nat} {vs : List V} {ds : List PyData} {zs : List (Nat × Nat)} : H a = tpO z → ItP H0 H vs ds zs → ItP H0 H (.ref a :: vs) (.tuple [.int (z.1 : Int), .int (z.2 : Int)] :: ds) (z :: zs)
theorem prOf_list (x y : Nat) : prOf (.list [.int (x : Int), .int (y : Int)]) = (x, y) := by
  show (((x : Int)).toNat, ((y : Int)).toNat) = _
  congr 1
theorem prOf_tup (x y : Nat) : prOf (.tuple [.int (x : Int), .int (y : Int)]) = (x, y) := by
  show (((x : Int)).toNat, ((y : Int)).toNat) = _
  congr 1
theorem ItP.len {H0 H : Hp} : ∀ {vs : List V} {ds : List PyData} {zs : List (Nat × Nat)}, ItP H0 H vs ds zs → vs.length = zs.length ∧ ds.length = zs.length
  | _, _, _, .nil => ⟨rfl, rfl⟩
  | _, _, _, .lst _ _ c => ⟨congrArg (· + 1) (ItP.len c).1, congrArg (· + 1) (ItP.len c).2⟩
  | _, _, _, .tup _ c => ⟨congrArg (· + 1) (ItP.len c).1, congrArg (· + 1) (ItP.len c).2⟩
theorem ItP.prs {H0 H : Hp} : ∀ {vs : List V} {ds : List PyData} {zs : List (Nat × Nat)}, ItP H0 H vs ds zs → ds.map prOf = zs
  | _, _, _, .nil => rfl
  | _, _, _, .lst _ _ c => by rw [List.map_cons, ItP.prs c, prOf_list]
  | _, _, _, .tup _ c => by rw [List.map_cons, ItP.prs c, prOf_tup]
theorem ItP.dp {K : PySem.W.Frag} {H0 H : Hp} : ∀ {vs : List V} {ds : List PyData} {zs : List (Nat × Nat)}, ItP H0 H vs ds zs → DpAll K H vs ds
  | _, _, _, .nil => .nil
  | _, _, _, .lst _ e c => .cons (.lst (SqL.of e) (.cons (.int _) (.cons (.int _) .nil))) (ItP.dp c)
  | _, _, _, .tup e c => .cons (.tup (SqT.of e) (.cons (.int _) (.cons (.int _) .nil))) (ItP.dp c)
theorem ItP.same {H0 H H' : Hp} (s : Same H H') : ∀ {vs : List V} {ds : List PyData} {zs : List (Nat × Nat)}, ItP H0 H vs ds zs → ItP H0 H' vs ds zs
  | _, _, _, .nil => .nil
  | _, _, _, .lst n e c => .lst n (s _ _ e) (ItP.same s c)
  | _, _, _, .tup e c => .tup (s _ _ e) (ItP.same s c)
theorem it_ne {H : Hp} {h ha a : Addr} {x y : Int} (hn : Hnd H h ha) (e : H a = some (.lst [.int x, .int y])) : a ≠ h := fun q => by
  obtain ⟨cs, i, r, t, e1, _⟩ := hn.ex
  rw [q, e1] at e
  cases e
theorem ItP.keep {H0 H H' : Hp} {h ha : Addr} (k : Keep h H H') (hn : Hnd H h ha) : ∀ {vs : List V} {ds : List PyData} {zs : List (Nat × Nat)}, ItP H0 H vs ds zs → ItP H0 H' vs ds zs
  | _, _, _, .nil => .nil
  | _, _, _, .lst n e c => .lst n (k _ _ e (it_ne hn e)) (ItP.keep k hn c)
  | _, _, _, .tup e c => .tup (k _ _ e (tp_ne hn e)) (ItP.keep k hn c)
theorem ItP.snocL {H0 H : Hp} {a : Addr} {z : Nat × Nat} (n : H0 a = none) (e : H a = some (.lst [.int (z.1 : Int), .int (z.2 : Int)])) : ∀ {vs : List V} {ds : List PyData} {zs : List (Nat × Nat)}, ItP H0 H vs ds zs → ItP H0 H (vs ++ [.ref a]) (ds ++ [.list [.int (z.1 : Int), .int (z.2 : Int)]]) (zs ++ [z])
  | _, _, _, .nil => .lst n e .nil
  | _, _, _, .lst n' e' c => .lst n' e' (ItP.snocL n e c)
  | _, _, _, .tup e' c => .tup e' (ItP.snocL n e c)
theorem ItP.snocT {H0 H : Hp} {a : Addr} {z : Nat × Nat} (e : H a = tpO z) : ∀ {vs : List V} {ds : List PyData} {zs : List (Nat × Nat)}, ItP H0 H vs ds zs → ItP H0 H (vs ++ [.ref a]) (ds ++ [.tuple [.int (z.1 : Int), .int (z.2 : Int)]]) (zs ++ [z])
  | _, _, _, .nil => .tup e .nil
  | _, _, _, .lst n' e' c => .lst n' e' (ItP.snocT e c)
  | _, _, _, .tup e' c => .tup e' (ItP.snocT e c)
/-- a store to a list that is none of the items -/
theorem ItP.off {H0 H : Hp} {D : Addr} {o : HO} {ys : List V} (hD : H D = some (.lst ys)) (nD : ∀ x y : Int, ys ≠ [.int x, .int y]) : ∀ {vs : List V} {ds : List PyData} {zs : List (Nat × Nat)}, ItP H0 H vs ds zs → ItP H0 (upd H D o) vs ds zs
  | _, _, _, .nil => .nil
  | _, _, _, .lst n e c => .lst n (by
      rw [upd_ne (fun q => by
        rw [q, hD] at e
        cases e
        exact nD _ _ rfl)]
      exact e) (ItP.off hD nD c)
  | _, _, _, .tup e c => .tup (by
      rw [upd_ne (fun q => by
        rw [q, hD] at e
        cases e)]
      exact e) (ItP.off hD nD c)
theorem itp_refs {H0 H : Hp} {vs : List V} {ds : List PyData} {zs : List (Nat × Nat)} (c : ItP H0 H vs ds zs) (x y : Int) : vs ≠ [.int x, .int y] := fun e => by
  cases c with
  | nil => cases e
  | lst _ _ _ => cases e
  | tup _ _ => cases e
abbrev s_prs : Stmt := top 23
def spPrs (K : PySem.W.Frag) : Sp := fun vs H Q _ => ∃ (h ha p : Addr) (n : Nat) (B : Nat → Nat → Bool) (rk : Nat → Nat) (rs : List Addr), vs = [.ref h, .ref p] ∧ Hnd H h ha ∧ PO n B rk ∧ MatAt H p n B rs ∧
  ∀ q ys ds zs H', Keep h H H' → Hnd H' h ha → H q = none → H' q = some (.lst ys) → ItP H H' ys ds zs → zs.length ≤ 600 → (∀ z ∈ zs, z.1 < n ∧ z.2 < n ∧ sB B z.1 z.2 = true) → (∀ x y, x < n → y < n → cvB n B x y = true → (x, y) ∈ zs) → Q (.ref q) H'
section
variable {P : Program} {w : World} {K : PySem.W.Frag} {mg : Str → Option Value} {base : Heap}
theorem sc_prs : FnScope ["hand", "below", "n", "share", "pairs", "x", "pair", "y"] ["hand", "below"] (defScope s_prs) := ⟨rfl, rfl, rfl, by decide +kernel, rfl, by decide +kernel, by decide +kernel⟩
theorem ok_prs {f : Addr} {fd : FuncData} (F : Fun K "_law_pairs" "_law_pairs" s_prs f fd) (T : Bl mg) (c_law_draw : Cal P w K mg base CX0 "_law_draw" 2 spDraw) (c_law_edges : Cal P w K mg base CX0 "_law_edges" 2 spEdg) (c_law_seq : Cal P w K mg base CX0 "_law_seq" 3 (spSeqd K)) (c_law_shuffled : Cal P w K mg base CX0 "_law_shuffled" 3 (spShuf K)) : FnOk P w K mg base CX0 4 f fd ["hand", "below"] (spPrs K) := by
  refine F.ok sc_prs (fun vs H Q E h => ?_) (fun cdv A outer s H vs Q E hr h => ?_)
  · obtain ⟨h, ha, p, n, B, rk, rs, rfl, _⟩ := h
    rfl
  · obtain ⟨h, ha, p, n, B, rk, rs, rfl, hn, po, m, k⟩ := h
    have c0 : ∀ z : Nat, (0 : Int) + (z : Nat) = ((z : Nat) : Int) := fun z => by omega
    have h24 := po.n24
    refine ⟨_,
      (pss_cons (ps_set (i := 2) sc_prs.nd rfl (Or.inl rfl) (pe_callB (klen K) (by rfl) T.n_len PySem.boot_len (pa_cons (pv 1) pa_nil)))
      (pss_cons (ps_set (i := 3) sc_prs.nd rfl (Or.inr rfl) (pe_op op_add pe_int (pe_cal c_law_draw (hr.mono (by decide)) (by rfl) (pa_cons (pv 0) (pa_cons pe_int pa_nil)))))
      (pss_cons (ps_set (i := 4) sc_prs.nd rfl (Or.inl rfl) (pe_cal c_law_edges (hr.mono (by decide)) (by rfl) (pa_cons (pv 1) pa_nil)))
      (pss_cons (ps_for PassesOwn.never rfl (pi_range1 (by rfl) T.n_range (pa_cons (pv 2) pa_nil)) (pg_name (i := 5) sc_prs.nd rfl (Or.inr rfl))
        (pss_one (ps_expr (pe_bm PySem.F.plainAttrs_list PySem.F.slot_list_extend PySem.F.type_list_extend mt_extend (pv 4) (pa_cons (pe_lc (own := [("y", 7)]) (by rfl) sc_prs.nd (pi_range1 (by rfl) T.n_range (pa_cons (pv 2) pa_nil)) (blkOk_by (own := [("y", 7)]) (by show blkC ["hand", "below", "n", "share", "pairs", "x", "pair", "y"] (defScope s_prs) _ _ = true; decide +kernel)) (fun _ _ _ _ _ => (pg_name (i := 7) sc_prs.nd rfl (Or.inl rfl))) (fun _ _ _ _ _ => (pts_one (PW.pt (pw_and (pt_cmpR op_ne (pv 5) (pv 7) (nomark _)) (pw_and (pt_val (pe_ix (kix_list K) (pe_ix (kix_list K) (pv 1) (pv 5) (fun _ _ => rfl)) (pv 7) (fun _ _ => rfl))) (pw_and1 (pt_cmpR op_eq (pe_cal c_law_draw (hr.mono (by decide)) (by rfl) (pa_cons (pv 0) (pa_cons (pv 3) pa_nil))) pe_int (nomark _)))))))) (fun _ _ _ _ _ => (pe_tup (pa_cons (pv 5) (pa_cons (pv 7) pa_nil))))) pa_nil)))))
      (pss_cons (ps_if (kt_truth K (pv 4) (by intro _; rfl))
        (pss_one (ps_expr (pe_bm PySem.F.plainAttrs_list PySem.F.slot_list_append PySem.F.type_list_append mt_append (pv 4) (pa_cons (pe_ix (kix_list K) (pv 4) (pe_cal c_law_draw (hr.mono (by decide)) (by rfl) (pa_cons (pv 0) (pa_cons (pe_callB (klen K) (by rfl) T.n_len PySem.boot_len (pa_cons (pv 4) pa_nil)) pa_nil))) (fun _ _ => rfl)) pa_nil))))
        pss_nil)
      (pss_one (ps_ret (pe_lc (own := [("pair", 6)]) (by rfl) sc_prs.nd (kpi_list K (pe_cal c_law_shuffled (hr.mono (by decide)) (by rfl) (pa_cons (pv 0) (pa_cons (pv 4) pa_nil)))) (blkOk_by (own := [("pair", 6)]) (by show blkC ["hand", "below", "n", "share", "pairs", "x", "pair", "y"] (defScope s_prs) _ _ = true; decide +kernel)) (fun _ _ _ _ _ => (pg_name (i := 6) sc_prs.nd rfl (Or.inl rfl))) (fun _ _ _ _ _ => pts_nil) (fun _ _ _ _ _ => (pe_cal c_law_seq (hr.mono (by decide)) (by rfl) (pa_cons (pv 0) (pa_cons (pv 6) pa_nil))))))))))))
      , ?_⟩
    walk_at "r"
    refine ⟨p, _, rfl, .inl (SqL.of m.top), ?_⟩
    rw [List.length_map, m.len]
    walk_at "r"
    refine ⟨h, ha, _, rfl, hn, by omega, by omega, fun d H1 d0 d1 k1 n1 _ => ?_⟩
    have m1 := m.hkeep k1 hn
    walk_at "r"
    refine ⟨p, n, B, rs, rfl, h24, m1, fun q as H2 s2 hq p2 => ?_⟩
    have k2 : Keep h H H2 := k1.trans (Keep.of_same s2)
    have n2 := n1.same s2
    have qh : q ≠ h := n1.ne hq
    have qa : q ≠ ha := n1.nea hq
    have hqH : H q = none := k1.free hq qh
    clear m1
    walk_at "r"
    refine for_range (lo := 0) (n := n) (fun i σ H' => ∃ (v5 v6 v7 : Option V) (as : List Addr) (prs : List (Nat × Nat)), σ = [some (.ref h), some (.ref p), some (.int (n : Int)), some (.int (1 + d)), some (.ref q), v5, v6, v7] ∧ Keep h H H' ∧ Hnd H' h ha ∧ PrsAt H' q as prs ∧ prs.length ≤ (edgesL n (cvB n B)).length + ((List.range i).flatMap fun s => (fl n (sB B s)).map fun t => (s, t)).length ∧ (∀ z ∈ prs, z.1 < n ∧ z.2 < n ∧ sB B z.1 z.2 = true) ∧ (∀ z ∈ edgesL n (cvB n B), z ∈ prs))
      ⟨none, none, none, as, _, rfl, k2, n2, p2, by simp, fun z hz => ?_, fun z hz => hz⟩ ?_ ?_
    · obtain ⟨x, y⟩ := z
      obtain ⟨h1, h2, h3⟩ := edges_mem.mp hz
      exact ⟨h1, h2, (cvB_iff.mp h3).1⟩
    · rintro x σ H3 hx ⟨v5, v6, v7, as3, prs3, rfl, k3, n3, p3, l3, b3, e3⟩
      walk_at "r"
      refine ⟨.inl ⟨rfl, _, SqL.of p3.top⟩, ?_⟩
      walk_at "r"
      intro D hD
      have Dh : D ≠ h := n3.ne hD
      refine lc_range (lo := 0) (n := n) (fun j H' => ∃ (bs : List Addr) (qs : List (Nat × Nat)), Keep h H3 H' ∧ Hnd H' h ha ∧ PrsAt H' D bs qs ∧ qs.length ≤ (fl j (sB B x)).length ∧ ∀ z ∈ qs, z.1 < n ∧ z.2 < n ∧ sB B z.1 z.2 = true) ⟨[], [], Keep.new hD, n3.new hD, ⟨upd_same, rfl⟩, Nat.zero_le _, fun z hz => nomatch hz⟩ ?_ ?_
      · rintro y H4 hy ⟨bs, qs, k4, n4, p4, l4, b4⟩
        have m4 := m.hkeep (k3.trans k4) hn
        obtain ⟨r, hr1, har, her⟩ := m4.get hx
        have ls : (fl y (sB B x)).length ≤ (fl (y + 1) (sB B x)).length := by
          rw [fl_succ]
          split
          · rw [List.length_append]
            omega
          · exact Nat.le_refl _
        have stay : ∀ H5, Keep h H4 H5 → Hnd H5 h ha → ∃ (bs : List Addr) (qs : List (Nat × Nat)), Keep h H3 H5 ∧ Hnd H5 h ha ∧ PrsAt H5 D bs qs ∧ qs.length ≤ (fl (y + 1) (sB B x)).length ∧ ∀ z ∈ qs, z.1 < n ∧ z.2 < n ∧ sB B z.1 z.2 = true := fun H5 k5 n5 => ⟨bs, qs, k4.trans k5, n5, p4.keep k5 Dh n4, by omega, b4⟩
        refine ⟨rfl, ?_⟩
        walk_at "r"
        rw [c0, c0, dec_nat]
        refine iteB (fun c => ?_) (fun c => stay H4 (Keep.refl _ _) n4)
        refine ⟨_, rfl, _, rfl, _, _, _, _, rfl, rfl, SqL.of m4.top, har, _, rfl, _, _, _, _, rfl, rfl, SqL.of her, rowV_at hy, _, rfl, ?_⟩
        refine iteB (fun c2 => ?_) (fun c2 => stay H4 (Keep.refl _ _) n4)
        have hs : sB B x y = true := sB_iff.mpr ⟨fun z => by
          rw [z] at c
          simp at c, c2⟩
        refine ⟨_, rfl, _, rfl, ?_⟩
        refine ⟨h, ha, _, rfl, n4, by omega, by omega, fun dd H5 dd0 dd1 k5 n5 _ => ?_⟩
        walk_at "r"
        refine iteB (fun c3 => ?_) (fun c3 => stay H5 k5 n5)
        walk_at "r"
        refine ⟨(by show 2 ≤ sizeLine; decide), fun tp htp => ?_⟩
        have et : upd H5 tp (.tup [V.int (x : Nat), V.int (y : Nat)]) tp = tpO (x, y) := upd_same
        have p5 := (p4.keep k5 Dh n4).same (same_new (o := .tup [V.int (x : Nat), V.int (y : Nat)]) htp)
        have l5 := p5.len
        have l6 : (fl y (sB B x)).length ≤ y := fl_le
        refine ⟨_, p5.top, small1000 (by rw [List.length_map]; omega), bs ++ [tp], qs ++ [(x, y)], (k4.trans (k5.trans (Keep.new htp))).mut hD, (n5.new htp).off Dh (n3.nea hD), p5.push et, ?_, fun z hz => ?_⟩
        · rw [fl_succ, if_pos hs, List.length_append, List.length_append]
          show _ + 1 ≤ _ + 1
          omega
        · rcases List.mem_append.mp hz with hz | hz
          · exact b4 z hz
          · have e : z = (x, y) := by simpa using hz
            rw [e]
            exact ⟨hx, hy, hs⟩
      · rintro H4 ⟨bs, qs, k4, n4, p4, l4, b4⟩
        have p3' := p3.keep k4 qh n3
        have l5 := p3'.len
        have l6 := p4.len
        have l7 : (fl n (sB B x)).length ≤ n := fl_le
        have l8 := edges_len (c := fun s => fl n (cvB n B s)) (fun s => Nat.le_trans (fl_le (n := n) (p := cvB n B s)) h24) n
        have l9 := edges_len (c := fun s => fl n (sB B s)) (fun s => Nat.le_trans (fl_le (n := n) (p := sB B s)) h24) x
        have l8 : (edgesL n (cvB n B)).length ≤ n * 24 := l8
        refine ⟨q, D, _, _, rfl, rfl, p3'.top, p4.top, (by rw [List.length_map, List.length_map]; exact Nat.le_of_lt (Nat.lt_of_le_of_lt (by omega) (by decide : 2000 < sizeLine))), ?_⟩
        refine ⟨_, _, _, as3 ++ bs, prs3 ++ qs, rfl, (k3.trans k4).mut hqH, n4.off qh qa, p3'.cat p4, ?_, fun z hz => ?_, fun z hz => List.mem_append_left _ (e3 z hz)⟩
        · rw [List.length_append, edges_step, List.length_append, List.length_map]
          omega
        · rcases List.mem_append.mp hz with hz | hz
          · exact b3 z hz
          · exact b4 z hz
    · rintro σ H3 ⟨v5, v6, v7, as3, prs3, rfl, k3, n3, p3, l3, b3, e3⟩
      have lt : prs3.length ≤ 552 := by
        have c1 := po.count
        have c2 := cv_le (n := n) (B := B)
        have c3 : ((List.range n).flatMap fun s => (fl n (sB B s)).map fun t => (s, t)).length = (edgesL n (sB B)).length := rfl
        omega
      have rest : ∀ (as4 : List Addr) (prs4 : List (Nat × Nat)) (H4 : Hp), Keep h H H4 → Hnd H4 h ha → PrsAt H4 q as4 prs4 → prs4.length ≤ 553 → (∀ z ∈ prs4, z.1 < n ∧ z.2 < n ∧ sB B z.1 z.2 = true) → (∀ z ∈ edgesL n (cvB n B), z ∈ prs4) → tLc (iList K (tCall (spShuf K) [] E0 (tCons (tVar 0) (tCons (tVar 4) tNil)))) (gName 6) tYes (tCall (spSeqd K) [] E0 (tCons (tVar 0) (tCons (tVar 6) tNil))) (List.map (fun x => x.snd) [(Str.ofString "pair", 6)]) [some (.ref h), some (.ref p), some (.int (n : Int)), some (.int (1 + d)), some (.ref q), v5, v6, v7] H4 Q := fun as4 prs4 H4 k4 n4 p4 l4 b4 e4 => by
        have l5 := p4.len
        refine ⟨_, rfl, _, rfl, h, ha, q, _, rfl, n4, .inl (SqL.of p4.top), fun H' kk => .inl (SqL.of (kk _ _ p4.top qh)), (by rw [List.length_map]; omega), fun t ws H5 pm k5 n5 ht et => ?_⟩
        obtain ⟨zs, tz, pz⟩ := TpA.perm pm (TpA.of p4.its)
        have tz5 := tz.keep k5 n4
        have th : t ≠ h := n4.ne ht
        have lz : zs.length ≤ 553 := by
          rw [pz.length_eq]
          exact l4
        have lw := tz.len
        refine ⟨t, rfl, ⟨_, SqL.of et⟩, fun D hD => lc_list (K := K) (a := t) (xs := ws) (fun j H' => ∃ (ys : List V) (ds : List PyData), Keep h H5 H' ∧ Hnd H' h ha ∧ H' D = some (.lst ys) ∧ ItP H H' ys ds (zs.take j)) ⟨[], [], Keep.new hD, n5.new hD, upd_same, .nil⟩ (fun j H' _ z => by
          obtain ⟨_, _, k6, _⟩ := z
          exact SqL.of (k6 _ _ et th)) ?_ ?_⟩
        · rintro j v H6 hv ⟨ys, ds, k6, n6, eD, it⟩
          obtain ⟨a, z, rfl, hz, ea⟩ := (tz5.keep k6 n5).get hv
          have Dh : D ≠ h := n5.ne hD
          have tk : zs.take (j + 1) = zs.take j ++ [z] := by
            rw [List.take_add_one, hz]
            rfl
          refine ⟨rfl, ?_⟩
          walk_at "r"
          refine ⟨h, ha, a, [.int z.1, .int z.2], rfl, n6, .inr (SqT.of ea), fun H' kk => .inr (SqT.of (kk _ _ ea (tp_ne n6 ea))), fun b H7 k7 n7 e7 => ?_⟩
          have eD7 := k7 _ _ eD Dh
          have it7 := it.keep k7 n6
          have ll := it7.len.1
          rw [List.length_take] at ll
          have hDH : H D = none := k4.free (k5.free hD Dh) Dh
          have kD : Keep h H5 (upd H7 D (.lst (ys ++ [.ref b]))) := (k6.trans k7).mut hD
          have nD : Hnd (upd H7 D (.lst (ys ++ [.ref b]))) h ha := n7.off Dh (n5.nea hD)
          rw [tk]
          rcases e7 with ⟨nb, e7⟩ | e7
          · have bD : b ≠ D := fun q => by
              rw [q, eD] at nb
              cases nb
            have bH : H b = none := by
              have b6 : H5 b = none := k6.free nb (it_ne n7 e7)
              exact k4.free (k5.free b6 (it_ne n7 e7)) (it_ne n7 e7)
            refine ⟨ys, eD7, small1000 (by omega), ys ++ [.ref b], ds ++ [.list [.int (z.1 : Int), .int (z.2 : Int)]], kD, nD, upd_same, ?_⟩
            exact (it7.off eD7 (itp_refs it7)).snocL bH (by rw [upd_ne bD]; exact e7)
          · have e8 : H7 b = tpO z := by
              rcases e7 with e7 | ⟨rfl, _⟩
              · exact e7
              · exact k7 _ _ ea (tp_ne n6 ea)
            have bD : b ≠ D := fun q => by
              rw [q, eD7] at e8
              cases e8
            refine ⟨ys, eD7, small1000 (by omega), ys ++ [.ref b], ds ++ [.tuple [.int (z.1 : Int), .int (z.2 : Int)]], kD, nD, upd_same, ?_⟩
            exact (it7.off eD7 (itp_refs it7)).snocT (by rw [upd_ne bD]; exact e8)
        · rintro H6 ⟨ys, ds, k6, n6, eD, it⟩
          have Dh : D ≠ h := n5.ne hD
          rw [lw, List.take_length] at it
          refine k D ys ds zs H6 (k4.trans (k5.trans k6)) n6 (k4.free (k5.free hD Dh) Dh) eD it (by omega) (fun z hz => b4 z (pz.mem_iff.mp hz)) (fun x y hx hy hc => pz.mem_iff.mpr (e4 _ (edges_mem.mpr ⟨hx, hy, hc⟩)))
      walk_at "r"
      refine ⟨_, .inl ⟨_, SqL.of p3.top, rfl⟩, ?_⟩
      refine iteB (fun c => ?_) (fun c => ?_)
      · have lp : 0 < as3.length := by
          cases as3 with
          | nil => cases c
          | cons _ _ => exact Nat.succ_pos _
        have l5 := p3.len
        walk_at "r"
        refine ⟨.inl ⟨rfl, _, SqL.of p3.top⟩, ?_⟩
        walk_at "r"
        refine ⟨q, _, rfl, .inl (SqL.of p3.top), ?_⟩
        rw [List.length_map]
        refine ⟨h, ha, _, rfl, n3, by omega, by omega, fun dd H4 dd0 dd1 k4 n4 _ => ?_⟩
        have p4 := p3.keep k4 qh n3
        obtain ⟨v, ev, mv⟩ := atI_in (xs := as3.map V.ref) dd0 (by rw [List.length_map]; exact dd1)
        obtain ⟨a, ma, rfl⟩ := List.mem_map.mp mv
        obtain ⟨z, ez⟩ := p4.mem ma
        have mz : z ∈ prs3 := by
          have e : H4 a ∈ prs3.map tpO := by
            rw [← p4.its]
            exact List.mem_map_of_mem ma
          obtain ⟨z2, m2, e2⟩ := List.mem_map.mp e
          rw [ez] at e2
          have : z2 = z := by
            obtain ⟨z21, z22⟩ := z2
            obtain ⟨z1, z2⟩ := z
            unfold tpO at e2
            simp at e2
            rw [Prod.mk.injEq]
            omega
          rw [← this]
          exact m2
        refine ⟨_, _, _, _, rfl, rfl, SqL.of p4.top, ev, ?_⟩
        refine ⟨q, _, _, rfl, rfl, p4.top, small1000 (by rw [List.length_map]; omega), ?_⟩
        refine rest (as3 ++ [a]) (prs3 ++ [z]) _ ((k3.trans k4).mut hqH) (n4.off qh qa) (p4.push ez) (by rw [List.length_append]; show _ + 1 ≤ _; omega) (fun y hy => ?_) (fun y hy => List.mem_append_left _ (e3 y hy))
        rcases List.mem_append.mp hy with hy | hy
        · exact b3 y hy
        · have e : y = z := by simpa using hy
          rw [e]
          exact b3 z mz
      · exact rest as3 prs3 H3 k3 n3 p3 (by omega) b3 e3
end
end Z

set_option Elab.async false
set_option linter.all false
set_option maxRecDepth 100000
set_option maxHeartbeats 1600000
namespace Z
open PySem L2
local macro_rules | `(tactic| walk_at "side") => `(tactic| first | omega | (unfold CMul; omega) | (unfold CDiv; omega) | (unfold CDivN; omega) | (unfold CPow; omega) | decide)
local macro_rules | `(tactic| walk_at "lst") => `(tactic| first | exact SqL.of (by assumption) | exact SqL.of upd_same | assumption | exact upd_same)
local macro_rules | `(tactic| walk_at "r1") => `(tactic| first | refine ⟨_, rfl, ?_⟩ | refine ⟨_, _, rfl, rfl, ?_⟩ | refine Or.inl ⟨_, rfl, ?_⟩ | refine And.intro rfl ?_ | refine ⟨_, _, _, _, rfl, rfl, by walk_at "lst", rfl, ?_⟩ | refine ⟨_, _, rfl, Or.inl (by walk_at "lst"), ?_⟩ | refine And.intro (by walk_at "side") ?_)
local macro_rules | `(tactic| walk_at "r") => `(tactic| repeat walk_at "r1")
abbrev s_tr : Stmt := top 26
def L3 : PyData → Bool := lift (lift (lift fun _ => false))
theorem L3_int (i : Int) : L3 (.int i) = true := rfl
theorem L3_bl (b : Bool) : L3 (.bool b) = true := rfl
theorem L3_nats (l : List Nat) (h : l.length ≤ 600) : L3 (.tuple (natsD l)) = true := by
  show ((natsD l).all (lift (lift fun _ => false)) && decide ((natsD l).length ≤ 600)) = true
  rw [Bool.and_eq_true, List.all_eq_true, decide_eq_true_eq]
  refine ⟨fun d hd => ?_, by unfold natsD; rw [List.length_map]; exact h⟩
  obtain ⟨y, _, rfl⟩ := List.mem_map.mp hd
  rfl
theorem L3_prs (l : List (Nat × Nat)) (h : l.length ≤ 600) : L3 (.tuple (l.map cpD)) = true := by
  show ((l.map cpD).all (lift (lift fun _ => false)) && decide ((l.map cpD).length ≤ 600)) = true
  rw [Bool.and_eq_true, List.all_eq_true, decide_eq_true_eq]
  refine ⟨fun d hd => ?_, by rw [List.length_map]; exact h⟩
  obtain ⟨y, _, rfl⟩ := List.mem_map.mp hd
  rfl
def spTR (C : Addr) : Sp := fun vs H Q _ => ∃ (o dx p : Addr) (n : Nat) (B : Nat → Nat → Bool) (rk : Nat → Nat) (rs : List Addr), vs = [.ref o, .ref p] ∧ PO n B rk ∧ OrdF H o C dx n (sB B) (cvB n B) ∧ MatAt H p n B rs ∧ ∀ H', Same H H' → Q (.bl true) H'
/-- the methods of an order -/
structure OrMs (P : Program) (w : World) (K : PySem.W.Frag) (mg : Str → Option Value) (base : Heap) (C : Addr) : Prop where
  len : CalM P w K mg base CX0 C "__len__" 1 (spLenO C)
  eq : CalM P w K mg base CX0 C "__eq__" 1 (spEqO C)
  cvs : CalM P w K mg base CX0 C "covers" 1 (spCvs C)
  abv : CalM P w K mg base CX0 C "above" 1 (spAbv C)
  blw : CalM P w K mg base CX0 C "below" 1 (spBlw C)
  atm : CalM P w K mg base CX0 C "at_most" 1 (spAtm C)
theorem oF_no {n : Nat} {pa pb pc pe pd : Addr} {f : Str} (h1 : ("edges" : Str) ≠ f) (h2 : ("_ends" : Str) ≠ f) (h3 : ("_covers" : Str) ≠ f) (h4 : ("_below" : Str) ≠ f) (h5 : ("_above" : Str) ≠ f) (h6 : ("n" : Str) ≠ f) : (oF n pa pb pc pe pd).lookup f = none :=
  lkN (fun z => h1 z.symm) (lkN (fun z => h2 z.symm) (lkN (fun z => h3 z.symm) (lkN (fun z => h4 z.symm) (lkN (fun z => h5 z.symm) (lkN (fun z => h6 z.symm) rfl)))))
theorem OrdF.at_ {H : Hp} {o C dx : Addr} {n : Nat} {M c : Nat → Nat → Bool} (d : OrdF H o C dx n M c) : ∃ fs, H o = some (.ins C dx fs) ∧ fs.lookup ("covers" : Str) = none ∧ fs.lookup ("above" : Str) = none ∧ fs.lookup ("below" : Str) = none ∧ fs.lookup ("at_most" : Str) = none := by
  obtain ⟨pa, pb, pc, pe, pd, ra, rb, rc, rd, h, _⟩ := d.ex
  exact ⟨_, h, oF_no (by decide) (by decide) (by decide) (by decide) (by decide) (by decide), oF_no (by decide) (by decide) (by decide) (by decide) (by decide) (by decide), oF_no (by decide) (by decide) (by decide) (by decide) (by decide) (by decide), oF_no (by decide) (by decide) (by decide) (by decide) (by decide) (by decide)⟩
section
variable {P : Program} {w : World} {K : PySem.W.Frag} {mg : Str → Option Value} {base : Heap}
theorem sc_tr : FnScope ["order", "below", "n", "x", "lower", "y"] ["order", "below"] (defScope s_tr) := ⟨rfl, rfl, rfl, by decide +kernel, rfl, by decide +kernel, by decide +kernel⟩
theorem ok_tr {f C : Addr} {fd : FuncData} (F : Fun K "_law_told_right" "_law_told_right" s_tr f fd) (T : Bl mg) (O : OrI K mg C) (OM : OrMs P w K mg base C) (c_law_exact : Cal P w K mg base CX0 "_law_exact" 4 (spEx K L3)) (c_law_edges : Cal P w K mg base CX0 "_law_edges" 2 spEdg) (c_law_over : Cal P w K mg base CX0 "_law_over" 1 spOver) (c_law_above : Cal P w K mg base CX0 "_law_above" 1 (spLab K)) : FnOk P w K mg base CX0 5 f fd ["order", "below"] (spTR C) := by
  refine F.ok sc_tr (fun vs H Q E h => ?_) (fun cdv A outer s H vs Q E hr h => ?_)
  · obtain ⟨o, dx, p, n, B, rk, rs, rfl, _⟩ := h
    rfl
  · obtain ⟨o, dx, p, n, B, rk, rs, rfl, po, od, m, k⟩ := h
    have c0 : ∀ z : Nat, (0 : Int) + (z : Nat) = ((z : Nat) : Int) := fun z => by omega
    have h24 := po.n24
    refine ⟨_,
      (pss_cons (ps_set (i := 2) sc_tr.nd rfl (Or.inl rfl) (pe_callB (klen K) (by rfl) T.n_len PySem.boot_len (pa_cons (pv 1) pa_nil)))
      (pss_cons (ps_if (PW.pt (pw_or (pt_not (pt_val (pe_cal c_law_exact (hr.mono (by decide)) (by rfl) (pa_cons (kfld K (pv 0) rfl) (pa_cons (pv 2) pa_nil))))) (pw_or (pt_cmpR op_ne (pe_callB (call_lenO OM.len (hr.mono (by decide))) (by rfl) T.n_len PySem.boot_len (pa_cons (pv 0) pa_nil)) (pv 2) (nomark _)) (pw_or1 (pt_not (pt_val (pe_cal c_law_exact (hr.mono (by decide)) (by rfl) (pa_cons (kfld K (pv 0) rfl) (pa_cons (pe_callTy (ktuple_of K) (by rfl) T.n_tuple (by decide +kernel) (pa_cons (pe_cal c_law_edges (hr.mono (by decide)) (by rfl) (pa_cons (pv 1) pa_nil)) pa_nil)) pa_nil)))))))))
        (pss_one (ps_ret pe_bl))
        pss_nil)
      (pss_cons (ps_for PassesOwn.never rfl (pi_range1 (by rfl) T.n_range (pa_cons (pv 2) pa_nil)) (pg_name (i := 3) sc_tr.nd rfl (Or.inr rfl))
        (pss_cons (ps_set (i := 4) sc_tr.nd rfl (Or.inl rfl) (pe_callTy (ktuple_of K) (by rfl) T.n_tuple (by decide +kernel) (pa_cons (pe_lc (own := [("y", 5)]) (by rfl) sc_tr.nd (pi_range1 (by rfl) T.n_range (pa_cons (pv 2) pa_nil)) (blkOk_by (own := [("y", 5)]) (by show blkC ["order", "below", "n", "x", "lower", "y"] (defScope s_tr) _ _ = true; decide +kernel)) (fun _ _ _ _ _ => (pg_name (i := 5) sc_tr.nd rfl (Or.inl rfl))) (fun _ _ _ _ _ => (pts_one (PW.pt (pw_and (pt_cmpR op_ne (pv 5) (pv 3) (nomark _)) (pw_and1 (pt_val (pe_ix (kix_list K) (pe_ix (kix_list K) (pv 1) (pv 5) (fun _ _ => rfl)) (pv 3) (fun _ _ => rfl)))))))) (fun _ _ _ _ _ => (pv 5))) pa_nil)))
        (pss_cons (ps_if (pt_not (pt_val (pe_cal c_law_exact (hr.mono (by decide)) (by rfl) (pa_cons (pe_calM OM.cvs O.oc.cl (pv 0) (hr.mono (by decide)) (pa_cons (pv 3) pa_nil)) (pa_cons (pe_callTy (ktuple_of K) (by rfl) T.n_tuple (by decide +kernel) (pa_cons (pe_cal c_law_over (hr.mono (by decide)) (by rfl) (pa_cons (pv 1) (pa_cons (pv 3) pa_nil))) pa_nil)) pa_nil)))))
          (pss_one (ps_ret pe_bl))
          pss_nil)
        (pss_cons (ps_if (PW.pt (pw_or (pt_not (pt_val (pe_cal c_law_exact (hr.mono (by decide)) (by rfl) (pa_cons (pe_calM OM.abv O.oc.cl (pv 0) (hr.mono (by decide)) (pa_cons (pv 3) pa_nil)) (pa_cons (pe_cal c_law_above (hr.mono (by decide)) (by rfl) (pa_cons (pv 1) (pa_cons (pv 3) pa_nil))) pa_nil))))) (pw_or1 (pt_not (pt_val (pe_cal c_law_exact (hr.mono (by decide)) (by rfl) (pa_cons (pe_calM OM.blw O.oc.cl (pv 0) (hr.mono (by decide)) (pa_cons (pv 3) pa_nil)) (pa_cons (pv 4) pa_nil))))))))
          (pss_one (ps_ret pe_bl))
          pss_nil)
        (pss_one (ps_for PassesOwn.never rfl (pi_range1 (by rfl) T.n_range (pa_cons (pv 2) pa_nil)) (pg_name (i := 5) sc_tr.nd rfl (Or.inl rfl))
          (pss_one (ps_if (pt_not (pt_val (pe_cal c_law_exact (hr.mono (by decide)) (by rfl) (pa_cons (pe_calM OM.atm O.oc.cl (pv 0) (hr.mono (by decide)) (pa_cons (pv 3) (pa_cons (pv 5) pa_nil))) (pa_cons (pe_ix (kix_list K) (pe_ix (kix_list K) (pv 1) (pv 3) (fun _ _ => rfl)) (pv 5) (fun _ _ => rfl)) pa_nil)))))
            (pss_one (ps_ret pe_bl))
            pss_nil))))))))
      (pss_one (ps_ret pe_bl)))))
      , ?_⟩
    walk_at "r"
    refine ⟨p, _, rfl, .inl (SqL.of m.top), ?_⟩
    rw [List.length_map, m.len]
    walk_at "r"
    obtain ⟨fs, pd, ho, l1, l2, dp⟩ := od.edges (K := K)
    refine ⟨o, C, dx, fs, _, rfl, ho, O.oc.cl, O.oc.a1, l2, ?_⟩
    walk_at "r"
    refine ⟨_, _, _, rfl, .int _, .int _, L3_int _, fun H1 s1 => ⟨_, rfl, ?_⟩⟩
    refine iteF ?_
    have od1 := od.same s1
    refine ⟨_, rfl, o, dx, fs, rfl, s1 _ _ ho, o, dx, n, _, _, rfl, od1, n, rfl, by omega, ?_⟩
    have en : (!decide (V.int (n : Int) = V.int (n : Int))) = false := by rw [decide_eq_true rfl]; rfl
    refine ⟨_, rfl, rfl, _, rfl, ?_⟩
    rw [en]
    refine iteF ?_
    have m1 := m.same s1
    refine ⟨_, rfl, o, C, dx, fs, _, rfl, s1 _ _ ho, O.oc.cl, O.oc.a6, l1, ?_⟩
    refine ⟨_, rfl, p, n, B, rs, rfl, h24, m1, fun q as H2 s2 hq p2 => ?_⟩
    refine ⟨_, _, rfl, .inl ⟨SqL.of p2.top, fun l hl => ?_⟩⟩
    have sl := same_new (o := .tup (as.map V.ref)) hl
    have le : (edgesL n (cvB n B)).length ≤ 600 := by
      have c1 := po.count
      have c2 := cv_le (n := n) (B := B)
      omega
    have p3 := p2.same sl
    refine ⟨_, _, .tuple ((edgesL n (cvB n B)).map cpD), rfl, Dp.same (s1.trans (s2.trans sl)) _ _ dp, .tup (SqT.of upd_same) (PrsAt.dpAll p3.its), L3_prs _ le, fun H3 s3 => ⟨_, rfl, ?_⟩⟩
    refine iteF ?_
    have s03 := s1.trans (s2.trans (sl.trans s3))
    clear p3 p2 m1 od1 s1 s2 sl s3
    walk_at "r"
    refine for_range (lo := 0) (n := n) (fun i σ H' => ∃ (v3 v4 v5 : Option V), σ = [some (.ref o), some (.ref p), some (.int (n : Int)), v3, v4, v5] ∧ Same H H') ⟨none, none, none, rfl, s03⟩ ?_ ?_
    · rintro x σ H4 hx ⟨v3, v4, v5, rfl, s4⟩
      have m4 := m.same s4
      walk_at "r"
      intro D hD
      refine lc_rfilt (n := n) (p := fun y => sB B y x) (by omega) hD (fun _ => rfl) rfl (fun y H5 Qb hy s5 q => ?_) (fun H5 s5 e5 => ?_)
      · have m5 := m4.same s5
        obtain ⟨r, hr1, har, her⟩ := m5.get hy
        walk_at "r"
        rw [c0, c0, dec_nat]
        refine iteB (fun c => ?_) (fun c => ?_)
        · refine ⟨_, rfl, _, rfl, _, _, _, _, rfl, rfl, SqL.of m5.top, har, _, rfl, _, _, _, _, rfl, rfl, SqL.of her, rowV_at hx, _, rfl, ?_⟩
          have e : sB B y x = B y x := by
            have c : (!decide (y = x)) = true := c
            unfold sB
            rw [show decide (x ≠ y) = true from by
              simp at c ⊢
              exact fun z => c z.symm]
            rfl
          have q1 := q H5 (Same.refl _)
          simp only [e] at q1
          exact q1
        · have e : sB B y x = false := by
            have c : (!decide (y = x)) = false := c
            unfold sB
            rw [show decide (x ≠ y) = false from by
              simp at c ⊢
              exact c.symm]
            rfl
          have q1 := q H5 (Same.refl _)
          simp only [e] at q1
          exact q1
      · walk_at "r"
        refine ⟨_, _, rfl, .inl ⟨SqL.of e5, fun lo hlo => ?_⟩⟩
        have s6 := s4.trans (s5.trans (same_new (o := .tup (natsV (fl n fun y => sB B y x))) hlo))
        have dlo : Dp K (upd H5 lo (.tup (natsV (fl n fun y => sB B y x)))) (.ref lo) (.tuple (natsD (fl n fun y => sB B y x))) := .tup (SqT.of upd_same) (natsD_dp _)
        generalize upd H5 lo (.tup (natsV (fl n fun y => sB B y x))) = H6 at s6 dlo ⊢
        have od6 := od.same s6
        have m6 := m.same s6
        obtain ⟨fs6, ho6, f1, f2, f3, f4⟩ := od6.at_
        walk_at "r"
        have l6 : ∀ p : Nat → Bool, (fl n p).length ≤ 600 := fun p => Nat.le_trans fl_le (by omega)
        refine ⟨o, dx, fs6, rfl, ho6, f1, ?_⟩
        walk_at "r"
        refine ⟨o, dx, n, x, _, _, by rw [c0]; rfl, hx, od6, fun r hr6 => ?_⟩
        walk_at "r"
        refine ⟨p, n, x, B, rs, by rw [c0]; rfl, hx, h24, m6, fun q H7 s7 hq7 e7 => ?_⟩
        refine ⟨_, _, rfl, .inl ⟨SqL.of e7, fun l7 hl7 => ?_⟩⟩
        have t7 := same_new (o := .tup (natsV (fl n (cvB n B x)))) hl7
        refine ⟨_, _, .tuple (natsD (fl n (cvB n B x))), rfl, .tup (SqT.of ((s7.trans t7) _ _ hr6)) (natsD_dp _), .tup (SqT.of upd_same) (natsD_dp _), L3_nats _ (l6 _), fun H8 s8 => ⟨_, rfl, ?_⟩⟩
        refine iteF ?_
        have s68 := s7.trans (t7.trans s8)
        clear t7 s7 s8
        have od8 := od6.same s68
        have m8 := m6.same s68
        obtain ⟨fs8, ho8, g1, g2, g3, g4⟩ := od8.at_
        walk_at "r"
        refine ⟨o, dx, fs8, rfl, ho8, g2, ?_⟩
        walk_at "r"
        refine ⟨o, dx, n, x, _, _, by rw [c0]; rfl, hx, od8, fun r2 hr8 => ?_⟩
        walk_at "r"
        refine ⟨p, n, x, B, rs, by rw [c0]; rfl, hx, h24, m8, fun q2 H9 s9 d9 => ?_⟩
        refine ⟨_, _, .tuple (natsD (fl n (sB B x))), rfl, .tup (SqT.of (s9 _ _ hr8)) (natsD_dp _), d9, L3_nats _ (l6 _), fun H10 s10 => ⟨_, rfl, ?_⟩⟩
        refine iteF ?_
        have s610 := s68.trans (s9.trans s10)
        have od10 := od6.same s610
        obtain ⟨fs10, ho10, i1, i2, i3, i4⟩ := od10.at_
        refine ⟨_, rfl, o, dx, fs10, rfl, ho10, i3, ?_⟩
        walk_at "r"
        refine ⟨o, dx, n, x, _, _, by rw [c0]; rfl, hx, od10, fun r3 hr10 => ?_⟩
        walk_at "r"
        refine ⟨_, _, .tuple (natsD (fl n fun y => sB B y x)), rfl, .tup (SqT.of hr10) (natsD_dp _), Dp.same s610 _ _ dlo, L3_nats _ (l6 _), fun H11 s11 => ⟨_, rfl, ?_⟩⟩
        refine iteF ?_
        have s11' := s6.trans (s610.trans s11)
        walk_at "r"
        refine for_range (lo := 0) (n := n) (fun i σ H' => ∃ (v5 : Option V), σ = [some (.ref o), some (.ref p), some (.int (n : Int)), some (.int (0 + (x : Nat))), some (.ref lo), v5] ∧ Same H H') ⟨_, rfl, s11'⟩ ?_ ?_
        · rintro y σ H12 hy ⟨v5, rfl, s12⟩
          have od12 := od.same s12
          have m12 := m.same s12
          obtain ⟨fs12, ho12, j1, j2, j3, j4⟩ := od12.at_
          obtain ⟨r, hr1, har, her⟩ := m12.get hx
          walk_at "r"
          refine ⟨o, dx, fs12, rfl, ho12, j4, ?_⟩
          walk_at "r"
          refine ⟨o, dx, n, x, y, _, _, by rw [c0, c0]; rfl, hx, hy, od12, ?_⟩
          walk_at "r"
          rw [c0, c0]
          refine ⟨_, _, _, _, rfl, rfl, SqL.of m12.top, har, _, rfl, _, _, _, _, rfl, rfl, SqL.of her, rowV_at hy, ?_⟩
          have e : (decide (x = y) || sB B x y) = B x y := by
            by_cases q : x = y
            · subst q
              rw [po.rf x hx]
              simp
            · unfold sB
              rw [decide_eq_false q, show decide (y ≠ x) = true from decide_eq_true (Ne.symm q)]
              simp
          rw [e]
          refine ⟨_, _, .bool (B x y), rfl, .bl _, .bl _, L3_bl _, fun H13 s13 => ⟨_, rfl, ?_⟩⟩
          refine iteF ?_
          exact ⟨_, rfl, s12.trans s13⟩
        · rintro σ H12 ⟨v5, rfl, s12⟩
          exact ⟨_, _, _, rfl, s12⟩
    · rintro σ H4 ⟨v3, v4, v5, rfl, s4⟩
      walk_at "r"
      exact k H4 s4
end
end Z

set_option Elab.async false
set_option linter.all false
set_option maxRecDepth 100000
set_option maxHeartbeats 2100000
namespace Z
open PySem L2
open PySem.Spec PyProof.Rows
/-! ### the law's own def, called where no text is being made of an object that holds itself -/
def RunAt (P : Program) (w : World) (K : PySem.W.Frag) (mg : Str → Option Value) (base : Heap) (fa : Addr) (fd : FuncData) (ps : List Str) (sp : Sp) : Prop :=
  ∀ (s : Shared) (H : Hp) (args : Args) (us : List Value) (vs : List V) (Q : VK) (E : XK), Env0 P w K mg base callerA [] s H → BindsTo s fd args (ps.zip us) → Vals vs us → sp vs H Q E → codeAny (model P w) callerA (.call (.ref fa) args) (CR CX0 [] P w H s Q E) s
/-- the heap H says nothing but of the script: the run from there -/
theorem run_head {P : Program} {w : World} {K : PySem.W.Frag} {mg mb : Str → Option Value} {fa sc : Addr} {fd : FuncData} {x : Str} {sp : Sp} {st : Shared} {us : List Value} {H : Hp}
    (inK : K.In st.heap) (globs : st.heap.Ns mainGlobals mg) (bns : st.heap.Ns builtinsNs mb) (same : ∀ y : Str, y ≠ "__name__" → mb y = bootBuiltins y) (nolim : st.heap.NoLimit) (nogen : st.gens = #[])
    (here : st.heap.get? sc = some { cls := .type "list", data := .seq us.toArray }) (F : ∀ base : Heap, K.In base → base.Ns mainGlobals mg → RunAt P w K mg base fa fd [x] sp) (binds : ∀ (s : Shared) (v : Value), BindsTo s fd ⟨[v], []⟩ [(x, v)])
    (want : sp [.ref sc] H (fun v _ => v = .bl true) fun _ _ _ => False) (only : Only H) (hok : HOk P w H st.heap) (just : ∀ b, H b ≠ none → b = sc) (apart : H sc ≠ none → K.lookup sc = none) :
    codeAny (model P w) callerA (.call (.ref fa) ⟨[.ref sc], []⟩) (fun res s2 => res = .ok (.ret (.bool true)) ∧ OldK st.heap s2.heap ∧ s2.os = st.os ∧ AllBare s2.gens) st := by
  have none_of : ∀ {b : Addr} {o : Obj}, st.heap.get? b = some o → (H b ≠ none → st.heap.get? sc = some o → False) → H b = none := fun {b o} got no => by
    by_cases hb : H b = none
    · exact hb
    · have eb := just b hb
      subst eb
      exact absurd got fun got => no hb got
  have nsH : ∀ {b : Addr} {m : Str → Option Value}, st.heap.Ns b m → (hidT st.heap H).Ns b m := fun {b m} ns => by
    obtain ⟨o, ents, ep, got, dat, rest⟩ := ns
    refine ⟨o, ents, ep, hidT_get got (none_of got fun _ g2 => ?_), dat, rest⟩
    rw [here] at g2
    cases g2
    have bad : Data.seq us.toArray _ = Data.dict ents ep := dat
    cases bad
  have inH : K.In (hidT st.heap H) := fun b o lk => hidT_get (inK b o lk) (by
    by_cases hb : H b = none
    · exact hb
    · have eb := just b hb
      subst eb
      rw [apart hb] at lk
      cases lk)
  have modH : Mod K mg (hidT st.heap H) := ⟨inH, nsH globs, ⟨mb, nsH bns, same⟩, by
    obtain ⟨mc, c1, c2⟩ := nolim
    exact ⟨mc, nsH c1, c2⟩⟩
  have begin0 : Env0 P w K mg (hidT st.heap H) callerA [] st H := ⟨rfl, modH, fun b o e => of_hidT e, Nat.le_of_eq (hidT_size _ _), trivial, (fun b hb => by cases hb), hok, .of_eq nogen⟩
  refine codeAny_mono (F _ inH (nsH globs) st H ⟨[.ref sc], []⟩ [.ref sc] [.ref sc] _ _ begin0 (binds st (.ref sc)) (.cons rfl .nil) want) fun res s2 got => ?_
  match res, got with
  | .error er, got => exact False.elim got
  | .ok .next, got => exact False.elim got
  | .ok .brk, got => exact False.elim got
  | .ok .cont, got => exact False.elim got
  | .ok (.ret u), got =>
    obtain ⟨v, H2, same2, bare2, un2, hok2, rel2, isT⟩ := got
    have isT2 : v = .bl true := isT
    subst isT2
    cases (show u = Value.bool true from rel2)
    refine ⟨rfl, OldK.of_keep fun b o was => ?_, same2, bare2⟩
    by_cases hb : H b = none
    · exact un2.keep b o was hb (fun z => by cases z) (by simp)
    · rcases only b with z | ⟨ob, xs, z⟩
      · exact absurd z hb
      · have then2 := un2.frzs b ob _ z
        obtain ⟨g1, _⟩ := hok b _ z
        obtain ⟨g2, _⟩ := hok2 b _ then2
        rw [was] at g1
        cases g1
        exact g2
theorem run_call {P : Program} {w : World} {K : PySem.W.Frag} {mg mb : Str → Option Value} {fa sc : Addr} {fd : FuncData} {x : Str} {sp : Sp} {st : Shared} {us : List Value} {zs : List Int}
    (inK : K.In st.heap) (globs : st.heap.Ns mainGlobals mg) (bns : st.heap.Ns builtinsNs mb) (same : ∀ y : Str, y ≠ "__name__" → mb y = bootBuiltins y) (nolim : st.heap.NoLimit) (nogen : st.gens = #[])
    (here : st.heap.get? sc = some { cls := .type "list", data := .seq us.toArray }) (intsA : IntsAre us zs) (short : zs.length ≤ sizeLine) (F : ∀ base : Heap, K.In base → base.Ns mainGlobals mg → RunAt P w K mg base fa fd [x] sp) (binds : ∀ (s : Shared) (v : Value), BindsTo s fd ⟨[v], []⟩ [(x, v)])
    (want : ∀ H : Hp, Only H → SqL K H sc (zs.map V.int) → sp [.ref sc] H (fun v _ => v = .bl true) fun _ _ _ => False) :
    codeAny (model P w) callerA (.call (.ref fa) ⟨[.ref sc], []⟩) (fun res s2 => res = .ok (.ret (.bool true)) ∧ OldK st.heap s2.heap ∧ s2.os = st.os ∧ AllBare s2.gens) st := by
  have rels := vals_ints intsA
  have lens := intsA.length
  by_cases hk : K.lookup sc = none
  · have at_ : ∀ b : Addr, (if b = sc then some (HO.frz { cls := .type "list", data := .seq us.toArray } (.lst (zs.map V.int))) else none) ≠ none → b = sc := fun b hb => by
      by_cases eb : b = sc
      · exact eb
      · rw [if_neg eb] at hb
        exact absurd rfl hb
    have only : Only (fun b => if b = sc then some (.frz { cls := .type "list", data := .seq us.toArray } (.lst (zs.map V.int))) else none) := fun b => by
      by_cases eb : b = sc
      · exact .inr ⟨_, _, if_pos eb⟩
      · exact .inl (if_neg eb)
    refine run_head inK globs bns same nolim nogen here F binds (want _ only (.inl (.inr ⟨{ cls := .type "list", data := .seq us.toArray }, if_pos rfl⟩))) only (fun b u z => ?_) at_ fun _ => hk
    by_cases eb : b = sc
    · have z2 := (if_pos eb).symm.trans z
      cases z2
      subst eb
      exact ⟨here, by rw [List.length_map]; exact short, us, _, rels, here⟩
    · have z2 := (if_neg eb).symm.trans z
      cases z2
  · obtain ⟨o, ho⟩ := Option.ne_none_iff_exists'.mp hk
    have same_o := inK sc o ho
    rw [here] at same_o
    cases same_o
    have only : Only (fun _ : Addr => (none : Option HO)) := fun _ => .inl rfl
    exact run_head inK globs bns same nolim nogen here F binds (want _ only (.inr ⟨_, us.toArray, _, ho, rfl, rfl, rfl, by rw [List.size_toArray, lens]; exact short, by simpa using rels⟩)) only (fun b u z => by cases z) (fun b z => absurd rfl z) fun z => absurd rfl z
theorem run_walk {l : PySem.W.OpenLaw} {n : Nat} {q : Program} {loose : List Str} {XP : (Str → Option Value) → Heap → Prop} {YP : World → Heap → Prop} {d : DefRec} {K : Params → PySem.W.Frag} {sp : World → Sp} {x : Str}
    (most : l.most = some n) (small : n ≤ sizeLine) (plain : d.params.defaults = []) (inK : ∀ (w : World) (h : Heap), YP w h → (K w.params).In h)
    (F : ∀ (w : World) (mg : Str → Option Value) (fa : Addr) (h : Heap), (K w.params).In h → h.Ns mainGlobals mg → mg d.name = some (.ref fa) →
      ∃ fd : FuncData, (∀ (s : Shared) (v : Value), BindsTo s fd ⟨[v], []⟩ [(x, v)]) ∧ ∀ base : Heap, (K w.params).In base → base.Ns mainGlobals mg → RunAt l.prog w (K w.params) mg base fa fd [x] (sp w))
    (want : ∀ (w : World) (H : Hp) (a : Addr) (zs : List Int), zs.length ≤ n → Only H → SqL (K w.params) H a (zs.map V.int) → sp w [.ref a] H (fun v _ => v = .bl true) fun _ _ _ => False) :
    PySem.W.WalkO q loose XP YP l.row.toRowW d [] (fun f vs => PySem.call f vs) := by
  refine Att.attach_call most plain fun w _ st mg mb fa o pm cd doc a us zs G Y _ _ _ named here intsA short nogen => ?_
  have KX := inK w _ Y
  obtain ⟨fd, binds, runs⟩ := F w mg fa _ KX G.T.g named
  exact run_call KX G.T.g G.T.b G.T.builtins G.T.nolimit nogen here intsA (Nat.le_trans short small) runs binds fun H only sq => want w H a zs short only sq
/-- a def's body, run by that caller -/
theorem run_def {P : Program} {w : World} {K : PySem.W.Frag} {mg : Str → Option Value} {base : Heap} {k : Nat} {x qual : Str} {st : Stmt} {f : Addr} {fd : FuncData} {N ps : List Str} {sp : Sp} (D : Fun K x qual st f fd) (S : FnScope N ps (defScope st)) (len : ∀ vs H Q E, sp vs H Q E → vs.length = ps.length) (room : Room (k + 1) callerA)
    (body : ∀ (cdv : Value) (s : Shared) (H : Hp) (vs : List V) (Q : VK) (E : XK), Room k (callerA.deeper (PyProof.Rows.envOfC qual (defScope st) s.heap.objs.size f cdv)) → sp vs H Q E →
      ∃ t, PSs (cxOf CX0 P w K mg base N qual (defScope st) f cdv callerA [] s H E).nox (defBody st) t ∧ t { nx := fun _ H' => Q .non H', rt := Q } (start N vs) H) : RunAt P w K mg base f fd ps sp := by
  obtain ⟨oc, od, kV, doc, pm, an, cdv, ct, osl, rfl, lk, code⟩ := D.ex
  intro s H args us vs Q E begin0 binds rels want
  have many := len _ _ _ _ want
  have inK : K.In s.heap := begin0.mod.kin.keeps fun b o e => (begin0.bs b o e).1
  have nolim : s.heap.NoLimit := begin0.mod.nolimit.keeps fun b o e => (begin0.bs b o e).1
  have kinds : ∀ y ∈ ps.zip us, (defScope st).names.lookup y.1 = some .local ∨ ((defScope st).names.lookup y.1 = some .cell ∧ ((cellsFrom (s.heap.objs.size + 1) (defScope st).names []).lookup y.1).isSome = true) := fun y hy => by
    rcases S.par y.1 (List.of_mem_zip (a := y.1) (b := y.2) hy).1 with loc | cel
    · exact .inl loc
    · exact .inr ⟨cel, PySem.W.cellsFrom_some _ _ _ (.inl cel)⟩
  refine codeAny_call_function room.depth (inK _ _ lk) rfl S.co S.gen rfl (PySem.W.codeRec_of inK code) (binds _ _ _ _ ?_)
  refine wpAny_newFunctionEnv_cells S.kind kinds fun env henv s1 made => ?_
  subst henv
  refine ⟨nolim.keeps made.toInCall.keep, codeAny_func ?_⟩
  obtain ⟨t, ht, goes⟩ := body cdv s H vs Q E (room.deeper _) want
  have inv : Inv (cxOf CX0 P w K mg base N qual (defScope st) f cdv callerA [] s H E) [] (start N vs) H s1 := inv_start S room.hd begin0 many rels made
  refine wpAny_mono (ht.nox.run [] s1 (start N vs) H _ inv goes) (fun fl s2 hs => ?_) fun e s2 hs => hs
  match fl, hs with
  | .ret u, ⟨v, σ2, H2, inv2, rv, got⟩ => exact ⟨v, H2, inv2.os, inv2.bare, inv2.base, inv2.hok, rv, got⟩
  | .next, ⟨σ2, H2, inv2, got⟩ => exact ⟨V.non, H2, inv2.os, inv2.bare, inv2.base, inv2.hok, rfl, got⟩
  | .brk, ⟨_, _, _, got⟩ => exact False.elim got
  | .cont, ⟨_, _, _, got⟩ => exact False.elim got
end Z

set_option Elab.async false
set_option linter.all false
set_option maxRecDepth 100000
set_option maxHeartbeats 2100000
namespace Z
open PySem L2
open PySem.Spec PyProof.Rows
local macro_rules | `(tactic| walk_at "side") => `(tactic| first | omega | (unfold CMul; omega) | (unfold CDiv; omega) | (unfold CDivN; omega) | (unfold CPow; omega) | decide)
local macro_rules | `(tactic| walk_at "lst") => `(tactic| first | exact SqL.of (by assumption) | exact SqL.of upd_same | assumption | exact upd_same)
local macro_rules | `(tactic| walk_at "r1") => `(tactic| first | refine ⟨_, rfl, ?_⟩ | refine ⟨_, _, rfl, rfl, ?_⟩ | refine Or.inl ⟨_, rfl, ?_⟩ | refine And.intro rfl ?_ | refine ⟨_, _, _, _, rfl, rfl, by walk_at "lst", rfl, ?_⟩ | refine ⟨_, _, rfl, Or.inl (by walk_at "lst"), ?_⟩ | refine And.intro (by walk_at "side") ?_)
local macro_rules | `(tactic| walk_at "r") => `(tactic| repeat walk_at "r1")
/-- data whose text is short -/
structure Sh (n : Nat) (k : Nat) (d : PyData) : Prop where
  sw : d.showable = true
  nd : d.hasDict = false
  dp : d.depth ≤ n
  ln : d.shown.length ≤ k
theorem Sh.mono {n m k j : Nat} {d : PyData} (h : Sh n k d) (h1 : n ≤ m) (h2 : k ≤ j) : Sh m j d := ⟨h.sw, h.nd, Nat.le_trans h.dp h1, Nat.le_trans h.ln h2⟩
theorem sh_int {i : Int} (h : i.natAbs.log2 < 1920) : Sh 0 1921 (.int i) := ⟨by simp [PyData.showable, h], by simp [PyData.hasDict], by simp [PyData.depth], by
  simp only [PyData.shown]
  exact PyProof.Rows.int_text_len_1921 h⟩
theorem sh_small {i : Int} (h0 : -1000 ≤ i) (h1 : i ≤ 1000) : Sh 0 1921 (.int i) := sh_int (by
  by_cases hz : i.natAbs = 0
  · rw [hz]
    decide
  · rw [Nat.log2_lt hz]
    exact Nat.lt_of_lt_of_le (by omega : i.natAbs < 2 ^ 10) (Nat.pow_le_pow_right (by decide) (by decide)))
theorem sh_all {k : Nat} : ∀ {ds : List PyData} {n : Nat}, (∀ d ∈ ds, Sh n k d) → PyData.showableAll ds = true ∧ PyData.hasDictAll ds = false ∧ PyData.depthAll ds ≤ n ∧ ((PyData.shownAll ds).map (·.length)).sum ≤ ds.length * k ∧ (PyData.shownAll ds).length = ds.length
  | [], _, _ => by simp [PyData.showableAll, PyData.hasDictAll, PyData.depthAll, PyData.shownAll]
  | d :: ds, n, h => by
    obtain ⟨a1, a2, a3, a4, a5⟩ := sh_all (ds := ds) (n := n) fun e he => h e (List.mem_cons_of_mem _ he)
    have hd := h d List.mem_cons_self
    refine ⟨by simp [PyData.showableAll, hd.sw, a1], by simp [PyData.hasDictAll, hd.nd, a2], ?_, ?_, by simp [PyData.shownAll, a5]⟩
    · have := hd.dp
      simp only [PyData.depthAll]
      omega
    · have := hd.ln
      simp only [PyData.shownAll, List.map_cons, List.sum_cons, List.length_cons, Nat.add_mul]
      omega
theorem sh_list {n k : Nat} {ds : List PyData} (h : ∀ d ∈ ds, Sh n k d) : Sh (n + 1) (ds.length * k + 2 * ds.length + 3) (.list ds) := by
  obtain ⟨a1, a2, a3, a4, a5⟩ := sh_all h
  refine ⟨by simp [PyData.showable, a1], by simp [PyData.hasDict, a2], by simp only [PyData.depth]; omega, ?_⟩
  simp only [PyData.shown]
  have := listText_len_le (PyData.shownAll ds)
  rw [a5] at this
  omega
theorem sh_tuple {n k : Nat} {ds : List PyData} (h : ∀ d ∈ ds, Sh n k d) : Sh (n + 1) (ds.length * k + 2 * ds.length + 3) (.tuple ds) := by
  obtain ⟨a1, a2, a3, a4, a5⟩ := sh_all h
  refine ⟨by simp [PyData.showable, a1], by simp [PyData.hasDict, a2], by simp only [PyData.depth]; omega, ?_⟩
  simp only [PyData.shown]
  have := tupleText_len_le (PyData.shownAll ds)
  rw [a5] at this
  omega
theorem sh_two {a b : PyData} (ha : Sh 0 1921 a) (hb : Sh 0 1921 b) : ∀ d ∈ [a, b], Sh 0 1921 d := fun d hd => by
  rcases List.mem_cons.mp hd with rfl | hd
  · exact ha
  · rcases List.mem_cons.mp hd with rfl | hd
    · exact hb
    · cases hd
/-! ### repr of data -/
def rReprD (K : PySem.W.Frag) : List V → Hp → VK → Prop := fun xs H Q => ∃ a d, xs = [.ref a] ∧ Dp K H (.ref a) d ∧ Sh 8 sizeLine d ∧ Q (.str (PyData.shown d)) H
theorem call_reprD {X : Cx} (K : PySem.W.Frag) (hg : X.A.guards = some []) (hu : X.A.units + 64 < cLine) (hK : X.K = K := by rfl) : CallR X (.builtin "repr") (rReprD K) := by
  intro pins s σ H xs us Q inv rl want
  obtain ⟨a, d, rfl, dv, sh, q⟩ := want
  cases rl with
  | cons r1 rr =>
    cases rr
    cases r1
    obtain ⟨as, rd⟩ := Dp.reads inv d (.ref a) (.ref a) (by rw [hK]; exact dv) rfl
    exact repr_of_reads' rd sh.sw (PyData.noDict_hsm sh.nd) hg (by have := sh.dp; omega) (fun _ _ e => e) (fun h' u tk hk => ⟨.str (PyData.shown d), H, inv.kept (t' := tk) hk, ⟨_, rfl⟩, q⟩) sh.ln
/-! ### a def that is called where no text is being made of an object that holds itself -/
structure FnOkG (P : Program) (w : World) (K : PySem.W.Frag) (mg : Str → Option Value) (base : Heap) (k : Nat) (f : Addr) (fd : FuncData) (ps : List Str) (sp : Sp) : Prop where
  len : ∀ vs H Q E, sp vs H Q E → vs.length = ps.length
  run : ∀ (A : Around) (outer : List Env) (s : Shared) (H : Hp) (args : Args) (us : List Value) (vs : List V) (Q : VK) (E : XK), Room k A → A.guards = some [] → Env0 P w K mg base A outer s H → BindsTo s fd args (ps.zip us) → Vals vs us → sp vs H Q E → codeAny (model P w) A (.call (.ref f) args) (CR CX0 outer P w H s Q E) s
structure CalG (P : Program) (w : World) (K : PySem.W.Frag) (mg : Str → Option Value) (base : Heap) (x : Str) (k : Nat) (sp : Sp) : Prop where
  ex : ∃ (f : Addr) (fd : FuncData) (ps : List Str), mg x = some (.ref f) ∧ PySem.W.keepIn K (.ref f) = true ∧ Binds K fd ps [] ∧ FnOkG P w K mg base k f fd ps sp
theorem fnG_of {P : Program} {w : World} {K : PySem.W.Frag} {mg : Str → Option Value} {base : Heap} {k : Nat} {x qual : Str} {st : Stmt} {f : Addr} {fd : FuncData} {N ps : List Str} {sp : Sp} (D : Fun K x qual st f fd) (S : FnScope N ps (defScope st)) (len : ∀ vs H Q E, sp vs H Q E → vs.length = ps.length)
    (body : ∀ (cdv : Value) (A : Around) (outer : List Env) (s : Shared) (H : Hp) (vs : List V) (Q : VK) (E : XK), Room k (A.deeper (PyProof.Rows.envOfC qual (defScope st) s.heap.objs.size f cdv)) → A.guards = some [] → sp vs H Q E →
      ∃ t, PSs (cxOf CX0 P w K mg base N qual (defScope st) f cdv A outer s H E).nox (defBody st) t ∧ t { nx := fun _ H' => Q .non H', rt := Q } (start N vs) H) : FnOkG P w K mg base (k + 1) f fd ps sp := by
  obtain ⟨oc, od, kV, doc, pm, an, cdv, ct, osl, rfl, lk, code⟩ := D.ex
  refine ⟨len, fun A outer s H args us vs Q E room gd begin0 binds rels want => ?_⟩
  have many := len _ _ _ _ want
  have inK : K.In s.heap := begin0.mod.kin.keeps fun b o e => (begin0.bs b o e).1
  have nolim : s.heap.NoLimit := begin0.mod.nolimit.keeps fun b o e => (begin0.bs b o e).1
  have kinds : ∀ y ∈ ps.zip us, (defScope st).names.lookup y.1 = some .local ∨ ((defScope st).names.lookup y.1 = some .cell ∧ ((cellsFrom (s.heap.objs.size + 1) (defScope st).names []).lookup y.1).isSome = true) := fun y hy => by
    rcases S.par y.1 (List.of_mem_zip (a := y.1) (b := y.2) hy).1 with loc | cel
    · exact .inl loc
    · exact .inr ⟨cel, PySem.W.cellsFrom_some _ _ _ (.inl cel)⟩
  refine codeAny_call_function room.depth (inK _ _ lk) rfl S.co S.gen rfl (PySem.W.codeRec_of inK code) (binds _ _ _ _ ?_)
  refine wpAny_newFunctionEnv_cells S.kind kinds fun env henv s1 made => ?_
  subst henv
  refine ⟨nolim.keeps made.toInCall.keep, codeAny_func ?_⟩
  obtain ⟨t, ht, goes⟩ := body cdv A outer s H vs Q E (room.deeper _) gd want
  have inv : Inv (cxOf CX0 P w K mg base N qual (defScope st) f cdv A outer s H E) [] (start N vs) H s1 := inv_start S room.hd begin0 many rels made
  refine wpAny_mono (ht.nox.run [] s1 (start N vs) H _ inv goes) (fun fl s2 hs => ?_) fun e s2 hs => hs
  match fl, hs with
  | .ret u, ⟨v, σ2, H2, inv2, rv, got⟩ => exact ⟨v, H2, inv2.os, inv2.bare, inv2.base, inv2.hok, rv, got⟩
  | .next, ⟨σ2, H2, inv2, got⟩ => exact ⟨V.non, H2, inv2.os, inv2.bare, inv2.base, inv2.hok, rfl, got⟩
  | .brk, ⟨_, _, _, got⟩ => exact False.elim got
  | .cont, ⟨_, _, _, got⟩ => exact False.elim got
section
variable {X : Cx} {x : Str} {k : Nat} {sp : Sp} {e : Expr} {es : List Expr} {t : TA} {p pos : Pos}
theorem pe_calG (c : CalG X.prog X.w X.K X.mg X.base x k sp) (gd : X.A.guards = some []) (hr : Room k X.A) (hg : Gl X x) (ha : PA X (e :: es) t)
    (hdb : (x == ("__debug__" : Str)) = false := by decide) (he : starEach (e :: es) X.env = (false, eval e X.env) :: starEach es X.env := by rfl) (hpl : (backTo pos (starEach es X.env)).any (·.1) = false := by rfl) :
    PE X (.Call (.Name x p) (e :: es) [] pos) (tCall sp [] E0 t) := by
  obtain ⟨f, fd, ps, hm, hk, hb, F⟩ := c.ex
  refine ⟨fun pins s σ H Q I h => ?_⟩
  refine wpAny_Call_Name_kw (ld_glob I hg hm ?_ hdb)
  refine PySem.W.callWith_K (h₀ := X.base) I.ok.mod.kin hk (thn (ha.run pos pins s σ H _ I h) fun us s1 ⟨vs, H1, I1, r, q⟩ => ⟨I1.kIn, ?_⟩) he hpl
  have q : sp vs H1 Q E0 := by
    have z : sp (vs ++ []) H1 Q E0 := q
    rw [List.append_nil] at z
    exact z
  have hl : us.length = ps.length := by
    have z := F.len _ _ _ _ q
    rw [← r.length]
    exact z
  have bd := hb s1 us I1.kIn (by rw [List.append_nil]; exact hl)
  rw [List.append_nil] at bd
  refine wpAny_call (codeAny_mono (F.run X.A X.stack s1 H1 ⟨us, []⟩ us vs Q E0 hr gd I1.env0 bd r q) fun res s' hq => ?_)
  cases res with
  | error e => exact (pass0 pins σ H1 s1 e s' I1 hq)
  | ok fl =>
    cases fl with
    | ret u => exact I1.after hq
    | next => exact False.elim hq
    | brk => exact False.elim hq
    | cont => exact False.elim hq
end
end Z

set_option Elab.async false
set_option linter.all false
set_option maxRecDepth 100000
set_option maxHeartbeats 2100000
namespace Z
open PySem L2
open PySem.Spec PyProof.Rows
local macro_rules | `(tactic| walk_at "side") => `(tactic| first | omega | (unfold CMul; omega) | (unfold CDiv; omega) | (unfold CDivN; omega) | (unfold CPow; omega) | decide)
local macro_rules | `(tactic| walk_at "lst") => `(tactic| first | exact SqL.of (by assumption) | exact SqL.of upd_same | assumption | exact upd_same)
local macro_rules | `(tactic| walk_at "r1") => `(tactic| first | refine ⟨_, rfl, ?_⟩ | refine ⟨_, _, rfl, rfl, ?_⟩ | refine Or.inl ⟨_, rfl, ?_⟩ | refine And.intro rfl ?_ | refine ⟨_, _, _, _, rfl, rfl, by walk_at "lst", rfl, ?_⟩ | refine ⟨_, _, rfl, Or.inl (by walk_at "lst"), ?_⟩ | refine And.intro (by walk_at "side") ?_)
local macro_rules | `(tactic| walk_at "r") => `(tactic| repeat walk_at "r1")
abbrev s_both : Stmt := top 31
theorem eqv_cps (z y : Nat × Nat) : PyData.eqv (cpD z) (cpD y) = decide (z = y) := by
  obtain ⟨a, b⟩ := z
  obtain ⟨c, d⟩ := y
  refine bool_ext ?_
  simp only [cpD, PyData.eqv, PyData.eqvAll]
  simp
  omega
theorem eqv_prs : ∀ l r : List (Nat × Nat), PyData.eqvAll (l.map cpD) (r.map cpD) = decide (l = r)
  | [], [] => by simp [PyData.eqvAll]
  | [], _ :: _ => by simp [PyData.eqvAll]
  | _ :: _, [] => by simp [PyData.eqvAll]
  | z :: l, y :: r => by
    rw [List.map_cons, List.map_cons, PyData.eqvAll, eqv_cps, eqv_prs l r]
    refine bool_ext ?_
    simp
theorem eqv_lst (l r : List (Nat × Nat)) : PyData.eqv (.list (l.map cpD)) (.list (r.map cpD)) = decide (l = r) := by
  rw [PyData.eqv]
  exact eqv_prs l r
theorem eqv_tup (l r : List (Nat × Nat)) : PyData.eqv (.tuple (l.map cpD)) (.tuple (r.map cpD)) = decide (l = r) := by
  rw [PyData.eqv]
  exact eqv_prs l r
/-- a store at a place that was free when the square was made -/
theorem MatAt.off {H0 H : Hp} {p q : Addr} {o : HO} {n : Nat} {M : Nat → Nat → Bool} {rs : List Addr} (m0 : MatAt H0 p n M rs) (m : MatAt H p n M rs) (hq : H0 q = none) : MatAt (upd H q o) p n M rs := by
  refine ⟨?_, m.len, fun x r e => ?_, m.nd, m.np⟩
  · rw [upd_ne (ne_of_none m0.top hq)]
    exact m.top
  · rw [upd_ne (ne_of_none (m0.row x r e) hq)]
    exact m.row x r e
theorem ItP.sh {H0 H : Hp} {n : Nat} (h24 : n ≤ 24) : ∀ {vs : List V} {ds : List PyData} {zs : List (Nat × Nat)}, ItP H0 H vs ds zs → (∀ z ∈ zs, z.1 < n ∧ z.2 < n) → (∀ d ∈ ds, Sh 1 4000 d) ∧ (∀ d ∈ ds, couple d ((n : Int) - 1) = true)
  | _, _, _, .nil, _ => ⟨fun _ h => (nomatch h), fun _ h => (nomatch h)⟩
  | _, _, _, .lst (z := z) _ _ c, h => by
    obtain ⟨a, b⟩ := ItP.sh h24 c fun y hy => h y (List.mem_cons_of_mem _ hy)
    have hz := h z List.mem_cons_self
    have s := (sh_list (sh_two (a := .int (z.1 : Int)) (b := .int (z.2 : Int)) (sh_small (by omega) (by omega)) (sh_small (by omega) (by omega)))).mono (m := 1) (j := 4000) (by decide) (by show 2 * 1921 + 2 * 2 + 3 ≤ 4000; decide)
    refine ⟨fun d hd => ?_, fun d hd => ?_⟩
    · rcases List.mem_cons.mp hd with rfl | hd
      · exact s
      · exact a d hd
    · rcases List.mem_cons.mp hd with rfl | hd
      · show ((decide ((0 : Int) ≤ z.1) && decide ((z.1 : Int) ≤ (n : Int) - 1)) && (decide ((0 : Int) ≤ z.2) && decide ((z.2 : Int) ≤ (n : Int) - 1))) = true
        simp only [Bool.and_eq_true, decide_eq_true_eq]
        omega
      · exact b d hd
  | _, _, _, .tup (z := z) _ c, h => by
    obtain ⟨a, b⟩ := ItP.sh h24 c fun y hy => h y (List.mem_cons_of_mem _ hy)
    have hz := h z List.mem_cons_self
    have s := (sh_tuple (sh_two (a := .int (z.1 : Int)) (b := .int (z.2 : Int)) (sh_small (by omega) (by omega)) (sh_small (by omega) (by omega)))).mono (m := 1) (j := 4000) (by decide) (by show 2 * 1921 + 2 * 2 + 3 ≤ 4000; decide)
    refine ⟨fun d hd => ?_, fun d hd => ?_⟩
    · rcases List.mem_cons.mp hd with rfl | hd
      · exact s
      · exact a d hd
    · rcases List.mem_cons.mp hd with rfl | hd
      · show ((decide ((0 : Int) ≤ z.1) && decide ((z.1 : Int) ≤ (n : Int) - 1)) && (decide ((0 : Int) ≤ z.2) && decide ((z.2 : Int) ≤ (n : Int) - 1))) = true
        simp only [Bool.and_eq_true, decide_eq_true_eq]
        omega
      · exact b d hd
def spMk (K : PySem.W.Frag) (C : Addr) : Prop := True
/-- Order(n, pairs) of pairs between the edges and the order -/
theorem make_ord {K : PySem.W.Frag} {C BO : Addr} {H : Hp} {R : VK} {n : Nat} {B : Nat → Nat → Bool} {rk : Nat → Nat} {a o dx : Addr} {d : PyData} {ds : List PyData} (po : PO n B rk) (da : Dp K H (.ref a) d) (hs : seqOf d = some ds) (hl : ds.length ≤ 600) (hc : ∀ e ∈ ds, couple e ((n : Int) - 1) = true)
    (h1 : ∀ e ∈ ds, sB B (prOf e).1 (prOf e).2 = true) (h2 : ∀ x y, x < n → y < n → cvB n B x y = true → (x, y) ∈ ds.map prOf) (ho : H o = none) (hdx : H dx = none) (k : ∀ H', Same H H' → OrdF H' o C dx n (sB B) (cvB n B) → R .non H') :
    spOI K C BO (.ref o :: ([.int (n : Int), .ref a] ++ [])) (upd (upd H dx (.own o)) o (.ins C dx [])) R E0 := by
  obtain ⟨e1, e2⟩ := po.made hs hl hc h1 h2
  have s1 : Same H (upd (upd H dx (.own o)) o (.ins C dx [])) := fun b u e => by
    rw [upd_ne (ne_of_none e ho), upd_ne (ne_of_none e hdx)]
    exact e
  refine ⟨o, dx, .int (n : Int), .ref a, .int (n : Int), d, rfl, upd_same, .int _, .dp (Dp.same s1 _ _ da), fun _ H' kp od => ?_, fun what at_ z => ?_⟩
  · exact k H' (fun b u e => kp b u (s1 b u e) (ne_of_none e ho)) (e2 od)
  · rw [e1] at z
    cases z
/-- a change of the first pair passed, where it is a list -/
theorem ts_bend {K : PySem.W.Frag} {σ : L2.St} {D : Ends} {H0 H : Hp} {q1 : Addr} {ys : List V} {ds : List PyData} {zs : List (Nat × Nat)} (g3 : σ[3]? = some (some (.ref q1))) (e1 : H q1 = some (.lst ys)) (it : ItP H0 H ys ds zs)
    (k : ∀ H7, (H7 = H ∨ ∃ (a : Addr) (x y : Int) (ws : List V), H0 a = none ∧ H a = some (.lst [.int x, .int y]) ∧ H7 = upd H a (.lst ws)) → D.nx σ H7) :
    tIfS (tAnd (tTruQ K (tVar 3)) (tB (tCB (rIsi K) (tCons (tOp (rIxL K) (tVar 3) (tC (V.int 0))) (tCons (tC (V.ty "list")) tNil))))) (tAsg (tC (V.int 0)) (gSub (tOp (rIxL K) (tVar 3) (tC (V.int 0))) (tC (V.int 1)) rSetL)) tNext D σ H := by
  refine ⟨_, g3, _, .inl ⟨_, SqL.of e1, rfl⟩, ?_⟩
  cases it with
  | nil => exact iteF (iteF (k H (.inl rfl)))
  | @lst a z vs ds' zs' fr e c =>
    refine iteT ?_
    refine ⟨_, g3, _, _, _, _, rfl, rfl, SqL.of e1, (show atI (V.ref a :: vs) ((0 : Nat) : Int) = some (.ref a) from atI_nat rfl), ?_⟩
    refine ⟨_, _, _, _, _, rfl, .ty _, ty_of_dp (K := K) (.lst (SqL.of e) (.cons (.int _) (.cons (.int _) .nil))), kit_ty (kb_list (.list [.int (z.1 : Int), .int (z.2 : Int)])), _, rfl, ?_⟩
    refine iteT ?_
    refine ⟨_, g3, _, _, _, _, rfl, rfl, SqL.of e1, (show atI (V.ref a :: vs) ((0 : Nat) : Int) = some (.ref a) from atI_nat rfl), ?_⟩
    refine ⟨_, _, _, _, rfl, rfl, e, ixN_nat (y := 1) (by show 1 < 2; decide), ?_⟩
    exact k _ (.inr ⟨a, _, _, _, fr, e, rfl⟩)
  | @tup a z vs ds' zs' e c =>
    refine iteT ?_
    refine ⟨_, g3, _, _, _, _, rfl, rfl, SqL.of e1, (show atI (V.ref a :: vs) ((0 : Nat) : Int) = some (.ref a) from atI_nat rfl), ?_⟩
    refine ⟨_, _, _, _, _, rfl, .ty _, ty_of_dp (K := K) (.tup (SqT.of e) (.cons (.int _) (.cons (.int _) .nil))), kit_ty (kb_list (.tuple [.int (z.1 : Int), .int (z.2 : Int)])), _, rfl, ?_⟩
    exact iteF (k H (.inl rfl))
def alB (n1 n2 : Nat) (B1 B2 : Nat → Nat → Bool) : Bool := decide (n1 = n2) && decide (edgesL n1 (cvB n1 B1) = edgesL n2 (cvB n2 B2))
theorem te_alike {K : PySem.W.Frag} {σ : L2.St} {G : Hp} {Q : VK} {p1 p2 : Addr} {n1 n2 : Nat} {B1 B2 : Nat → Nat → Bool} {rs1 rs2 : List Addr} (s1 : σ[1]? = some (some (.ref p1))) (s2 : σ[2]? = some (some (.ref p2))) (h1 : n1 ≤ 24) (h2 : n2 ≤ 24) (m1 : MatAt G p1 n1 B1 rs1) (m2 : MatAt G p2 n2 B2 rs2)
    (k : ∀ G', Same G G' → Q (.bl (alB n1 n2 B1 B2)) G') :
    tAndV (tOp rEq (tCB (rLenQ K) (tCons (tVar 1) tNil)) (tCB (rLenQ K) (tCons (tVar 2) tNil))) (tOp (rEqD K) (tCall spEdg [] E0 (tCons (tVar 1) tNil)) (tCall spEdg [] E0 (tCons (tVar 2) tNil))) σ G Q := by
  refine ⟨_, s1, p1, _, rfl, .inl (SqL.of m1.top), _, s2, p2, _, rfl, .inl (SqL.of m2.top), ?_⟩
  rw [List.length_map, List.length_map, m1.len, m2.len]
  refine ⟨rfl, _, rfl, ?_⟩
  rw [dec_nat]
  unfold alB at k
  by_cases e : n1 = n2
  · rw [decide_eq_true e] at k ⊢
    refine iteT ?_
    refine ⟨_, s1, p1, n1, B1, rs1, rfl, h1, m1, fun q as G1 t1 _ pe => ?_⟩
    refine ⟨_, s2, p2, n2, B2, rs2, rfl, h2, m2.same t1, fun q2 bs G2 t2 _ pf => ?_⟩
    refine ⟨_, _, (pe.same t2).dp, pf.dp, cpDs_shaped _, cpDs_shaped _, ?_⟩
    rw [eqv_lst]
    exact k G2 (t1.trans t2)
  · rw [decide_eq_false e] at k ⊢
    exact iteF (k G (Same.refl _))
theorem OrdF.ins {H : Hp} {o C dx : Addr} {n : Nat} {M c : Nat → Nat → Bool} (d : OrdF H o C dx n M c) : ∃ fs, H o = some (.ins C dx fs) := by
  obtain ⟨pa, pb, pc, pe, pd, ra, rb, rc, rd, h, _⟩ := d.ex
  exact ⟨_, h⟩
def spBoth : Sp := fun vs H Q _ => ∃ (h ha p1 p2 : Addr) (n1 n2 : Nat) (B1 B2 : Nat → Nat → Bool) (rk1 rk2 : Nat → Nat) (rs1 rs2 : List Addr), vs = [.ref h, .ref p1, .ref p2] ∧ Hnd H h ha ∧ PO n1 B1 rk1 ∧ PO n2 B2 rk2 ∧ MatAt H p1 n1 B1 rs1 ∧ MatAt H p2 n2 B2 rs2 ∧ ∀ H', Q (.bl true) H'
section
variable {P : Program} {w : World} {K : PySem.W.Frag} {mg : Str → Option Value} {base : Heap}
theorem sc_both : FnScope ["hand", "one", "other", "first_pairs", "second_pairs", "before", "first", "second", "again", "alike"] ["hand", "one", "other"] (defScope s_both) := ⟨rfl, rfl, rfl, by decide +kernel, rfl, by decide +kernel, by decide +kernel⟩
theorem ok_both {f C BO fO : Addr} {fd fdO : FuncData} (F : Fun K "_law_both" "_law_both" s_both f fd) (T : Bl mg) (O : OrI K mg C) (OM : OrMs P w K mg base C) (MO : Mk K C fO) (GO : FnOk P w K mg base (L2.CX P w) 4 fO fdO ["self", "n", "pairs"] (spOI K C BO)) (bO : Binds K fdO ["self", "n", "pairs"] [])
    (c_law_pairs : Cal P w K mg base CX0 "_law_pairs" 4 (spPrs K)) (c_law_told_right : Cal P w K mg base CX0 "_law_told_right" 5 (spTR C)) (c_law_exact : Cal P w K mg base CX0 "_law_exact" 4 (spEx K L3)) (c_law_edges : Cal P w K mg base CX0 "_law_edges" 2 spEdg) : FnOkG P w K mg base 6 f fd ["hand", "one", "other"] spBoth := by
  refine fnG_of F sc_both (fun vs H Q E h => ?_) (fun cdv A outer s H vs Q E hr gd h => ?_)
  · obtain ⟨h, ha, p1, p2, n1, n2, B1, B2, rk1, rk2, rs1, rs2, rfl, _⟩ := h
    rfl
  · obtain ⟨h, ha, p1, p2, n1, n2, B1, B2, rk1, rk2, rs1, rs2, rfl, hn, po1, po2, m1, m2, k⟩ := h
    have h241 := po1.n24
    have h242 := po2.n24
    refine ⟨_,
      (pss_cons (ps_set (i := 3) sc_both.nd rfl (Or.inl rfl) (pe_cal c_law_pairs (hr.mono (by decide)) (by rfl) (pa_cons (pv 0) (pa_cons (pv 1) pa_nil))))
      (pss_cons (ps_set (i := 4) sc_both.nd rfl (Or.inl rfl) (pe_cal c_law_pairs (hr.mono (by decide)) (by rfl) (pa_cons (pv 0) (pa_cons (pv 2) pa_nil))))
      (pss_cons (ps_set (i := 5) sc_both.nd rfl (Or.inl rfl) (pe_callB (call_reprD K gd hr.units) (by rfl) T.n_repr (by decide +kernel) (pa_cons (pv 3) pa_nil)))
      (pss_cons (ps_set (i := 6) sc_both.nd rfl (Or.inl rfl) (pe_make MO GO hr (by rfl) O.g bO .nil passL (pa_cons (pe_callB (klen K) (by rfl) T.n_len PySem.boot_len (pa_cons (pv 1) pa_nil)) (pa_cons (pv 3) pa_nil))))
      (pss_cons (ps_set (i := 7) sc_both.nd rfl (Or.inl rfl) (pe_make MO GO hr (by rfl) O.g bO .nil passL (pa_cons (pe_callB (klen K) (by rfl) T.n_len PySem.boot_len (pa_cons (pv 2) pa_nil)) (pa_cons (pv 4) pa_nil))))
      (pss_cons (ps_if (pt_cmpR op_ne (pe_callB (call_reprD K gd hr.units) (by rfl) T.n_repr (by decide +kernel) (pa_cons (pv 3) pa_nil)) (pv 5) (nomark _))
        (pss_one (ps_ret pe_bl))
        pss_nil)
      (pss_cons (ps_if (PW.pt (pw_or (pt_not (pt_val (pe_cal c_law_told_right (hr.mono (by decide)) (by rfl) (pa_cons (pv 6) (pa_cons (pv 1) pa_nil))))) (pw_or1 (pt_not (pt_val (pe_cal c_law_told_right (hr.mono (by decide)) (by rfl) (pa_cons (pv 7) (pa_cons (pv 2) pa_nil))))))))
        (pss_one (ps_ret pe_bl))
        pss_nil)
      (pss_cons (ps_if (PW.pt (pw_and (kt_truth K (pv 3) (by intro _; rfl)) (pw_and1 (pt_val (pe_callB (kisi K) (by rfl) T.n_isinstance (by decide +kernel) (pa_cons (pe_ix (kix_list K) (pv 3) pe_int (fun _ _ => rfl)) (pa_cons (pe_bltn (v := .ty "list") (u := .type "list") (by rfl) T.n_list (by decide +kernel) rfl) pa_nil)))))))
        (pss_one (ps_asg pe_int (pg_sub (pe_ix (kix_list K) (pv 3) pe_int (fun _ _ => rfl)) pe_int set_list)))
        pss_nil)
      (pss_cons (ps_expr (pe_bm PySem.F.plainAttrs_list PySem.F.slot_list_append PySem.F.type_list_append mt_append (pv 3) (pa_cons (pe_tup (pa_cons pe_int (pa_cons pe_int pa_nil))) pa_nil)))
      (pss_cons (ps_expr (pe_bm0 PySem.F.plainAttrs_list PySem.F.slot_list_clear PySem.F.type_list_clear mt_clear (pv 4)))
      (pss_cons (ps_set (i := 8) sc_both.nd rfl (Or.inl rfl) (pe_make MO GO hr (by rfl) O.g bO .nil passL (pa_cons (pe_callB (klen K) (by rfl) T.n_len PySem.boot_len (pa_cons (pv 1) pa_nil)) (pa_cons (pe_callTy (ktuple_of K) (by rfl) T.n_tuple (by decide +kernel) (pa_cons (pe_cal c_law_edges (hr.mono (by decide)) (by rfl) (pa_cons (pv 1) pa_nil)) pa_nil)) pa_nil))))
      (pss_cons (ps_if (PW.pt (pw_or (pt_not (pt_val (pe_cal c_law_told_right (hr.mono (by decide)) (by rfl) (pa_cons (pv 6) (pa_cons (pv 1) pa_nil))))) (pw_or1 (pt_not (pt_val (pe_cal c_law_told_right (hr.mono (by decide)) (by rfl) (pa_cons (pv 7) (pa_cons (pv 2) pa_nil))))))))
        (pss_one (ps_ret pe_bl))
        pss_nil)
      (pss_cons (ps_set (i := 9) sc_both.nd rfl (Or.inl rfl) (pe_and (pe_cmpR op_eq (pe_callB (klen K) (by rfl) T.n_len PySem.boot_len (pa_cons (pv 1) pa_nil)) (pe_callB (klen K) (by rfl) T.n_len PySem.boot_len (pa_cons (pv 2) pa_nil)) (nomark _)) (pe_one (pe_cmpR (keqD K hr.units) (pe_cal c_law_edges (hr.mono (by decide)) (by rfl) (pa_cons (pv 1) pa_nil)) (pe_cal c_law_edges (hr.mono (by decide)) (by rfl) (pa_cons (pv 2) pa_nil)) (nomark _)))))
      (pss_one (ps_ret (pe_and (pe_cal c_law_exact (hr.mono (by decide)) (by rfl) (pa_cons (pe_cmpR (op_eqO OM.eq (hr.mono (by decide))) (pv 6) (pv 8) (nomark _)) (pa_cons pe_bl pa_nil))) (pe_and (pe_cal c_law_exact (hr.mono (by decide)) (by rfl) (pa_cons (pe_cmpR (op_eqO OM.eq (hr.mono (by decide))) (pv 6) (pv 7) (nomark _)) (pa_cons (pv 9) pa_nil))) (pe_one (pe_cal c_law_exact (hr.mono (by decide)) (by rfl) (pa_cons (pe_cmpR (op_eqO OM.eq (hr.mono (by decide))) (pv 7) (pv 6) (nomark _)) (pa_cons (pv 9) pa_nil)))))))))))))))))))))
      , ?_⟩
    walk_at "r"
    refine ⟨h, ha, p1, n1, B1, rk1, rs1, rfl, hn, po1, m1, fun q1 ys1 ds1 zs1 H1 k1 hn1 f1 e1 it1 l1 b1 g1 => ?_⟩
    have m21 := m2.hkeep k1 hn
    have m11 := m1.hkeep k1 hn
    walk_at "r"
    refine ⟨h, ha, p2, n2, B2, rk2, rs2, rfl, hn1, po2, m21, fun q2 ys2 ds2 zs2 H2 k2 hn2 f2 e2 it2 l2 b2 g2 => ?_⟩
    have f21 : H1 q2 = none := f2
    have q1h : q1 ≠ h := hn.ne f1
    have q2h : q2 ≠ h := hn1.ne f2
    have f2H : H q2 = none := k1.free f2 q2h
    have n12 : q2 ≠ q1 := ne_of_none' e1 f2
    have e1b := k2 _ _ e1 q1h
    have it1b := it1.keep k2 hn1
    have m12 := m11.hkeep k2 hn1
    have m22 := m21.hkeep k2 hn1
    obtain ⟨sh1, cp1⟩ := it1.sh h241 fun z hz => ⟨(b1 z hz).1, (b1 z hz).2.1⟩
    obtain ⟨sh2, cp2⟩ := it2.sh h242 fun z hz => ⟨(b2 z hz).1, (b2 z hz).2.1⟩
    have pr1 := it1.prs
    have pr2 := it2.prs
    have ld1 := it1.len
    have ld2 := it2.len
    have shL : Sh 8 sizeLine (.list ds1) := by
      have e : ds1.length * 4000 + 2 * ds1.length + 3 ≤ sizeLine := by
        show _ ≤ 2 ^ 24
        omega
      exact (sh_list sh1).mono (by decide) e
    have d1 : Dp K H2 (.ref q1) (.list ds1) := .lst (SqL.of e1b) it1b.dp
    have d2 : Dp K H2 (.ref q2) (.list ds2) := .lst (SqL.of e2) it2.dp
    walk_at "r"
    refine ⟨q1, .list ds1, rfl, d1, shL, ?_⟩
    walk_at "r"
    refine ⟨p1, _, rfl, .inl (SqL.of m12.top), ?_⟩
    rw [List.length_map, m12.len]
    walk_at "r"
    intro o1 dx1 z3 z4 _
    refine make_ord (K := K) (C := C) (BO := BO) po1 d1 rfl (by omega) cp1 (fun e he => ?_) (fun x y hx hy hc => by rw [pr1]; exact g1 x y hx hy hc) z3 z4 (fun H3 s3 od1 => ⟨rfl, ?_⟩)
    · have mz : prOf e ∈ zs1 := by
        rw [← pr1]
        exact List.mem_map_of_mem he
      exact (b1 _ mz).2.2
    walk_at "r"
    have m23 := m22.same s3
    refine ⟨p2, _, rfl, .inl (SqL.of m23.top), ?_⟩
    rw [List.length_map, m23.len]
    walk_at "r"
    intro o2 dx2 z3 z4 _
    refine make_ord (K := K) (C := C) (BO := BO) po2 (Dp.same s3 _ _ d2) rfl (by omega) cp2 (fun e he => ?_) (fun x y hx hy hc => by rw [pr2]; exact g2 x y hx hy hc) z3 z4 (fun H4 s4 od2 => ⟨rfl, ?_⟩)
    · have mz : prOf e ∈ zs2 := by
        rw [← pr2]
        exact List.mem_map_of_mem he
      exact (b2 _ mz).2.2
    walk_at "r"
    have s24 := s3.trans s4
    refine ⟨q1, .list ds1, rfl, Dp.same s24 _ _ d1, shL, ?_⟩
    refine ⟨_, rfl, rfl, ?_⟩
    have en : (!decide (V.str (PyData.shown (.list ds1)) = V.str (PyData.shown (.list ds1)))) = false := by rw [decide_eq_true rfl]; rfl
    refine ⟨_, rfl, ?_⟩
    rw [en]
    refine iteF ?_
    have od14 := od1.same s4
    have m14 := m12.same s24
    have m24 := m22.same s24
    walk_at "r"
    refine ⟨o1, dx1, p1, n1, B1, rk1, rs1, rfl, po1, od14, m14, fun H5 s5 => ⟨_, rfl, ?_⟩⟩
    refine iteF ?_
    refine ⟨_, rfl, _, rfl, o2, dx2, p2, n2, B2, rk2, rs2, rfl, po2, od2.same s5, m24.same s5, fun H6 s6 => ⟨_, rfl, ?_⟩⟩
    refine iteF ?_
    have s26 := s24.trans (s5.trans s6)
    have s46 := s5.trans s6
    have od16 := od14.same s46
    have od26 := od2.same s46
    have m16 := m14.same s46
    have m26 := m24.same s46
    have e16 := s26 _ _ e1b
    have e26 := s26 _ _ e2
    have it16 := it1b.same s26
    clear s3 s4 s5 s6 s24 s46 m14 m24 od14 od1 od2 m23 d1 d2
    refine ts_bend (K := K) rfl e16 it16 (fun H7 h7 => ?_)
    have all7 : H7 q1 = some (.lst ys1) ∧ H7 q2 = some (.lst ys2) ∧ OrdF H7 o1 C dx1 n1 (sB B1) (cvB n1 B1) ∧ OrdF H7 o2 C dx2 n2 (sB B2) (cvB n2 B2) ∧ MatAt H7 p1 n1 B1 rs1 ∧ MatAt H7 p2 n2 B2 rs2 := by
      rcases h7 with rfl | ⟨a, x, y, ws, fa, ea, rfl⟩
      · exact ⟨e16, e26, od16, od26, m16, m26⟩
      · have n1 : q1 ≠ a := fun z => by
          rw [← z, e16] at ea
          exact itp_refs it16 x y (by
            injection ea with ea
            injection ea)
        have n2 : q2 ≠ a := fun z => by
          rw [← z, e26] at ea
          exact itp_refs it2 x y (by
            injection ea with ea
            injection ea)
        exact ⟨by rw [upd_ne n1]; exact e16, by rw [upd_ne n2]; exact e26, od16.put ea, od26.put ea, m1.off m16 fa, m2.off m26 fa⟩
    obtain ⟨e17, e27, od17, od27, m17, m27⟩ := all7
    clear h7 e16 e26 od16 od26 m16 m26 it16
    walk_at "r"
    refine ⟨.inl ⟨rfl, _, SqL.of e17⟩, ?_⟩
    walk_at "r"
    intro tz htz
    have m18 := m17.same (same_new (o := .tup [V.int 0, V.int 0]) htz)
    have m28 := m27.same (same_new (o := .tup [V.int 0, V.int 0]) htz)
    have od18 := od17.same (same_new (o := .tup [V.int 0, V.int 0]) htz)
    have od28 := od27.same (same_new (o := .tup [V.int 0, V.int 0]) htz)
    have e18 := same_new (o := .tup [V.int 0, V.int 0]) htz _ _ e17
    have e28 := same_new (o := .tup [V.int 0, V.int 0]) htz _ _ e27
    generalize upd H7 tz (.tup [V.int 0, V.int 0]) = H8 at m18 m28 od18 od28 e18 e28 ⊢
    refine ⟨q1, _, _, rfl, rfl, e18, small1000 (by omega), ?_⟩
    have m19 := m1.off (o := .lst (ys1 ++ [.ref tz])) m18 f1
    have m29 := m2.off (o := .lst (ys1 ++ [.ref tz])) m28 f1
    have od19 := od18.put (ys := ys1 ++ [.ref tz]) e18
    have od29 := od28.put (ys := ys1 ++ [.ref tz]) e18
    have e29 : upd H8 q1 (.lst (ys1 ++ [.ref tz])) q2 = some (.lst ys2) := by
      rw [upd_ne n12]
      exact e28
    generalize upd H8 q1 (.lst (ys1 ++ [.ref tz])) = H9 at m19 m29 od19 od29 e29 ⊢
    walk_at "r"
    refine ⟨.inl ⟨rfl, _, SqL.of e29⟩, ?_⟩
    refine ⟨q2, _, rfl, rfl, e29, ?_⟩
    have m10 := m1.off (o := .lst []) m19 f2H
    have m20 := m2.off (o := .lst []) m29 f2H
    have od10 := od19.put (ys := []) e29
    have od20 := od29.put (ys := []) e29
    generalize upd H9 q2 (.lst []) = G0 at m10 m20 od10 od20 ⊢
    walk_at "r"
    refine ⟨p1, _, rfl, .inl (SqL.of m10.top), ?_⟩
    rw [List.length_map, m10.len]
    walk_at "r"
    refine ⟨p1, n1, B1, rs1, rfl, h241, m10, fun qe as G1 t1 hqe pe => ?_⟩
    refine ⟨_, _, rfl, .inl ⟨SqL.of pe.top, fun l hl => ?_⟩⟩
    have tl := same_new (o := .tup (as.map V.ref)) hl
    have le : (edgesL n1 (cvB n1 B1)).length ≤ 600 := by
      have c1 := po1.count
      have c2 := cv_le (n := n1) (B := B1)
      omega
    have pe2 := pe.same tl
    have de : Dp K (upd G1 l (.tup (as.map V.ref))) (.ref l) (.tuple ((edgesL n1 (cvB n1 B1)).map cpD)) := .tup (SqT.of upd_same) (PrsAt.dpAll pe2.its)
    have t02 := t1.trans tl
    generalize upd G1 l (.tup (as.map V.ref)) = G2 at de t02 ⊢
    intro o3 dx3 z3 z4 _
    have prc : ∀ z : Nat × Nat, prOf (cpD z) = z := fun z => prOf_tup z.1 z.2
    refine make_ord (K := K) (C := C) (BO := BO) po1 de rfl (by rw [List.length_map]; exact le) (fun e he => ?_) (fun e he => ?_) (fun x y hx hy hc => ?_) z3 z4 (fun G3 t3 od3 => ⟨rfl, ?_⟩)
    · obtain ⟨z, hz, rfl⟩ := List.mem_map.mp he
      obtain ⟨x, y⟩ := z
      obtain ⟨hx, hy, _⟩ := edges_mem.mp hz
      show ((decide ((0 : Int) ≤ (x : Int)) && decide ((x : Int) ≤ (n1 : Int) - 1)) && (decide ((0 : Int) ≤ (y : Int)) && decide ((y : Int) ≤ (n1 : Int) - 1))) = true
      simp only [Bool.and_eq_true, decide_eq_true_eq]
      omega
    · obtain ⟨z, hz, rfl⟩ := List.mem_map.mp he
      rw [prc]
      exact (cvB_iff.mp (edges_mem.mp hz).2.2).1
    · exact List.mem_map.mpr ⟨cpD (x, y), List.mem_map_of_mem (edges_mem.mpr ⟨hx, hy, hc⟩), prc _⟩
    have t03 := t02.trans t3
    have m13 := m10.same t03
    have m23 := m20.same t03
    have od13 := od10.same t03
    have od23 := od20.same t03
    clear t02 t3 t1 tl pe pe2 de
    walk_at "r"
    refine ⟨o1, dx1, p1, n1, B1, rk1, rs1, rfl, po1, od13, m13, fun G4 t4 => ⟨_, rfl, ?_⟩⟩
    refine iteF ?_
    refine ⟨_, rfl, _, rfl, o2, dx2, p2, n2, B2, rk2, rs2, rfl, po2, od23.same t4, m23.same t4, fun G5 t5 => ⟨_, rfl, ?_⟩⟩
    refine iteF ?_
    have t35 := t4.trans t5
    have m15 := m13.same t35
    have m25 := m23.same t35
    have od15 := od13.same t35
    have od25 := od23.same t35
    have od35 := od3.same t35
    refine te_alike (K := K) rfl rfl h241 h242 m15 m25 (fun G6 t6 => ?_)
    have od16 := od15.same t6
    have od26 := od25.same t6
    have od36 := od35.same t6
    obtain ⟨fs1, i1⟩ := od16.ins
    obtain ⟨fs2, i2⟩ := od26.ins
    obtain ⟨fs3, i3⟩ := od36.ins
    walk_at "r"
    refine ⟨o1, o3, dx1, dx3, fs1, fs3, rfl, rfl, i1, i3, o1, dx1, o3, dx3, n1, n1, _, _, _, _, rfl, od16, od36, _, rfl, ?_⟩
    rw [eqv_tup, decide_eq_true rfl, decide_eq_true rfl]
    refine ⟨_, _, .bool true, rfl, .bl _, .bl _, rfl, fun G7 t7 => ⟨_, rfl, ?_⟩⟩
    refine iteT ?_
    have e12 : (decide (n1 = n2) && PyData.eqv (.tuple ((edgesL n1 (cvB n1 B1)).map cpD)) (.tuple ((edgesL n2 (cvB n2 B2)).map cpD))) = alB n1 n2 B1 B2 := by
      rw [eqv_tup]
      rfl
    have e21 : (decide (n2 = n1) && PyData.eqv (.tuple ((edgesL n2 (cvB n2 B2)).map cpD)) (.tuple ((edgesL n1 (cvB n1 B1)).map cpD))) = alB n1 n2 B1 B2 := by
      rw [eqv_tup]
      unfold alB
      refine bool_ext ?_
      simp only [Bool.and_eq_true, decide_eq_true_eq]
      exact ⟨fun z => ⟨z.1.symm, z.2.symm⟩, fun z => ⟨z.1.symm, z.2.symm⟩⟩
    refine ⟨_, rfl, _, rfl, o1, o2, dx1, dx2, fs1, fs2, rfl, rfl, t7 _ _ i1, t7 _ _ i2, o1, dx1, o2, dx2, n1, n2, _, _, _, _, rfl, od16.same t7, od26.same t7, _, rfl, ?_⟩
    rw [e12]
    refine ⟨_, rfl, _, _, .bool (alB n1 n2 B1 B2), rfl, .bl _, .bl _, L3_bl _, fun G8 t8 => ⟨_, rfl, ?_⟩⟩
    refine iteT ?_
    have t68 := t7.trans t8
    refine ⟨_, rfl, _, rfl, o2, o1, dx2, dx1, fs2, fs1, rfl, rfl, t68 _ _ i2, t68 _ _ i1, o2, dx2, o1, dx1, n2, n1, _, _, _, _, rfl, od26.same t68, od16.same t68, _, rfl, ?_⟩
    rw [e21]
    exact ⟨_, rfl, _, _, .bool (alB n1 n2 B1 B2), rfl, .bl _, .bl _, L3_bl _, fun G9 _ => k G9⟩
end
end Z

set_option Elab.async false
set_option linter.all false
set_option maxRecDepth 100000
set_option maxHeartbeats 2100000
namespace Z
open PySem L2
open PySem.Spec PyProof.Rows
local macro_rules | `(tactic| walk_at "side") => `(tactic| first | omega | (unfold CMul; omega) | (unfold CDiv; omega) | (unfold CDivN; omega) | (unfold CPow; omega) | decide)
local macro_rules | `(tactic| walk_at "lst") => `(tactic| first | exact SqL.of (by assumption) | exact SqL.of upd_same | assumption | exact upd_same)
local macro_rules | `(tactic| walk_at "r1") => `(tactic| first | refine ⟨_, rfl, ?_⟩ | refine ⟨_, _, rfl, rfl, ?_⟩ | refine Or.inl ⟨_, rfl, ?_⟩ | refine And.intro rfl ?_ | refine ⟨_, _, _, _, rfl, rfl, by walk_at "lst", rfl, ?_⟩ | refine ⟨_, _, rfl, Or.inl (by walk_at "lst"), ?_⟩ | refine And.intro (by walk_at "side") ?_)
local macro_rules | `(tactic| walk_at "r") => `(tactic| repeat walk_at "r1")
theorem erase_map {α β : Type} (f : α → β) : ∀ (l : List α) (i : Nat), (l.eraseIdx i).map f = (l.map f).eraseIdx i
  | [], _ => rfl
  | _ :: _, 0 => rfl
  | x :: l, i + 1 => congrArg (f x :: ·) (erase_map f l i)
abbrev s_law : Stmt := top 32
def spLaw (K : PySem.W.Frag) : Sp := fun vs H Q _ => ∃ (a : Addr) (ns : List Int), vs = [.ref a] ∧ SqL K H a (ns.map V.int) ∧ ns.length ≤ 63 ∧ ∀ H', Q (.bl true) H'
theorem te_other {K : PySem.W.Frag} {σ : L2.St} {H : Hp} {Q : VK} {h ha p : Addr} {n : Nat} {B : Nat → Nat → Bool} {rk : Nat → Nat} {rs : List Addr} (s1 : σ[1]? = some (some (.ref h))) (s2 : σ[2]? = some (some (.ref p))) (hn : Hnd H h ha) (po : PO n B rk) (m : MatAt H p n B rs)
    (k : ∀ p2 n2 B2 rk2 rs2 H', Keep h H H' → Hnd H' h ha → PO n2 B2 rk2 → MatAt H' p2 n2 B2 rs2 → Q (.ref p2) H') :
    tIf (tTest (tOp rEq (tCall spDraw [] E0 (tCons (tVar 1) (tCons (tC (V.int 6)) tNil))) (tC (V.int 0)))) (tVar 2) (tCall spAny [] E0 (tCons (tVar 1) tNil)) σ H Q := by
  refine ⟨_, s1, h, ha, 6, rfl, hn, by omega, by omega, fun d H1 d0 d1 k1 n1 _ => ?_⟩
  refine ⟨rfl, _, rfl, ?_⟩
  refine iteB (fun c => ?_) (fun c => ?_)
  · exact ⟨_, s2, k p n B rk rs H1 k1 n1 po (m.hkeep k1 hn)⟩
  · refine ⟨_, s1, h, ha, rfl, n1, fun p2 n2 B2 rk2 rs2 H2 k2 n2' po2 m2 => ?_⟩
    exact k p2 n2 B2 rk2 rs2 H2 (k1.trans k2) n2' po2 m2
section
variable {P : Program} {w : World} {K : PySem.W.Frag} {mg : Str → Option Value} {base : Heap}
theorem sc_law : FnScope ["script", "hand", "one", "other", "edges"] ["script"] (defScope s_law) := ⟨rfl, rfl, rfl, by decide +kernel, rfl, by decide +kernel, by decide +kernel⟩
theorem run_law {f : Addr} {fd : FuncData} (F : Fun K "law" "law" s_law f fd) (T : Bl mg) (c_law_hand : Cal P w K mg base CX0 "_law_hand" 1 (spHand K)) (c_law_draw : Cal P w K mg base CX0 "_law_draw" 2 spDraw) (c_law_any_order : Cal P w K mg base CX0 "_law_any_order" 5 spAny) (c_law_edges : Cal P w K mg base CX0 "_law_edges" 2 spEdg) (c_law_closed : Cal P w K mg base CX0 "_law_closed" 1 (spLC2 K)) (c_law_both : CalG P w K mg base "_law_both" 6 spBoth) : RunAt P w K mg base f fd ["script"] (spLaw K) := by
  refine run_def (k := 6) F sc_law (fun vs H Q E h => ?_) ⟨rfl, by decide, by decide⟩ (fun cdv s H vs Q E hr h => ?_)
  · obtain ⟨a, ns, rfl, _⟩ := h
    rfl
  · obtain ⟨a, ns, rfl, sq, hl, k⟩ := h
    refine ⟨_,
      (pss_cons (ps_set (i := 1) sc_law.nd rfl (Or.inl rfl) (pe_cal c_law_hand (hr.mono (by decide)) (by rfl) (pa_cons (pv 0) pa_nil)))
      (pss_cons (ps_set (i := 2) sc_law.nd rfl (Or.inl rfl) (pe_cal c_law_any_order (hr.mono (by decide)) (by rfl) (pa_cons (pv 1) pa_nil)))
      (pss_cons (ps_set (i := 3) sc_law.nd rfl (Or.inl rfl) (pe_ifExp (pt_cmpR op_eq (pe_cal c_law_draw (hr.mono (by decide)) (by rfl) (pa_cons (pv 1) (pa_cons pe_int pa_nil))) pe_int (nomark _)) (pv 2) (pe_cal c_law_any_order (hr.mono (by decide)) (by rfl) (pa_cons (pv 1) pa_nil))))
      (pss_cons (ps_if (PW.pt (pw_and (pt_cmpR op_eq (pe_cal c_law_draw (hr.mono (by decide)) (by rfl) (pa_cons (pv 1) (pa_cons pe_int pa_nil))) pe_int (nomark _)) (pw_and1 (kt_truth K (pe_cal c_law_edges (hr.mono (by decide)) (by rfl) (pa_cons (pv 2) pa_nil)) (by intro _; rfl)))))
        (pss_cons (ps_set (i := 4) sc_law.nd rfl (Or.inl rfl) (pe_cal c_law_edges (hr.mono (by decide)) (by rfl) (pa_cons (pv 2) pa_nil)))
        (pss_cons (ps_expr (pe_bm PySem.F.plainAttrs_list PySem.F.slot_list_pop PySem.F.type_list_pop mt_popAt (pv 4) (pa_cons (pe_cal c_law_draw (hr.mono (by decide)) (by rfl) (pa_cons (pv 1) (pa_cons (pe_callB (klen K) (by rfl) T.n_len PySem.boot_len (pa_cons (pv 4) pa_nil)) pa_nil))) pa_nil)))
        (pss_one (ps_set (i := 3) sc_law.nd rfl (Or.inl rfl) (pe_cal c_law_closed (hr.mono (by decide)) (by rfl) (pa_cons (pe_callB (klen K) (by rfl) T.n_len PySem.boot_len (pa_cons (pv 2) pa_nil)) (pa_cons (pv 4) pa_nil)))))))
        pss_nil)
      (pss_one (ps_ret (pe_calG c_law_both rfl hr (by rfl) (pa_cons (pv 1) (pa_cons (pv 2) (pa_cons (pv 3) pa_nil))))))))))
      , ?_⟩
    walk_at "r"
    refine ⟨a, ns, rfl, sq, hl, fun h ha H1 s1 n1 _ _ => ?_⟩
    walk_at "r"
    refine ⟨h, ha, rfl, n1, fun p n B rk rs H2 k2 n2 po m2 => ?_⟩
    refine te_other (K := K) rfl rfl n2 po m2 (fun p2 nn2 B2 rk2 rs2 H3 k3 n3 po2 m3 => ?_)
    have m23 := m2.hkeep k3 n2
    have h24 := po.n24
    walk_at "r"
    refine ⟨h, ha, _, rfl, n3, by omega, by omega, fun d H4 d0 d1 k4 n4 _ => ?_⟩
    have m24 := m23.hkeep k4 n3
    have m34 := m3.hkeep k4 n3
    refine ⟨rfl, _, rfl, ?_⟩
    refine iteB (fun c => ?_) (fun c => ?_)
    · refine ⟨_, rfl, p, n, B, rs, rfl, h24, m24, fun q as H5 s5 hq pe => ?_⟩
      refine ⟨_, .inl ⟨_, SqL.of pe.top, rfl⟩, ?_⟩
      refine iteB (fun c2 => ?_) (fun c2 => ?_)
      · walk_at "r"
        refine ⟨p, n, B, rs, rfl, h24, m24.same s5, fun q5 as5 H6 s6 hq6 pf => ?_⟩
        walk_at "r"
        have n6 := (n4.same s5).same s6
        have qh : q5 ≠ h := (n4.same s5).ne hq6
        have lf := pf.len
        have lp : 0 < as5.length := by
          have l1 := pe.len
          cases as with
          | nil => cases c2
          | cons _ _ =>
            have : (edgesL n (cvB n B)).length ≠ 0 := by
              rw [← l1]
              exact Nat.succ_ne_zero _
            omega
        have le : (edgesL n (cvB n B)).length ≤ 600 := by
          have c1 := po.count
          have c2 := cv_le (n := n) (B := B)
          omega
        refine ⟨.inl ⟨rfl, _, SqL.of pf.top⟩, ?_⟩
        walk_at "r"
        refine ⟨q5, _, rfl, .inl (SqL.of pf.top), ?_⟩
        rw [List.length_map]
        refine ⟨h, ha, _, rfl, n6, by omega, by omega, fun i H7 i0 i1 k7 n7 _ => ?_⟩
        have pg := pf.keep k7 qh n6
        have il : i.toNat < as5.length := by omega
        have hix : seqIndex? i (as5.map V.ref).length = some i.toNat := by
          have e : i = ((i.toNat : Nat) : Int) := by omega
          rw [e]
          exact (ixN_seq (ixN_nat (by rw [List.length_map]; exact il))).1
        refine ⟨q5, _, i, i.toNat, .ref as5[i.toNat], rfl, rfl, pg.top, by omega, by omega, hix, by rw [List.getElem?_map, List.getElem?_eq_getElem il]; rfl, ?_⟩
        have ptop : upd H7 q5 (.lst ((as5.map V.ref).eraseIdx i.toNat)) q5 = some (.lst ((as5.map V.ref).eraseIdx i.toNat)) := upd_same
        have its : (as5.eraseIdx i.toNat).map (upd H7 q5 (.lst ((as5.map V.ref).eraseIdx i.toNat))) = ((edgesL n (cvB n B)).eraseIdx i.toNat).map tpO := by
          have e0 : (as5.eraseIdx i.toNat).map H7 = ((edgesL n (cvB n B)).eraseIdx i.toNat).map tpO := by
            rw [erase_map, erase_map, pg.its]
          refine map_same e0 fun b mb o eb => ?_
          obtain ⟨w, e2⟩ := pg.mem (List.mem_of_mem_eraseIdx mb)
          rw [upd_ne (fun z => by
            rw [z, pg.top] at e2
            cases e2)]
          exact eb
        have hq4 : H4 q5 = none := s5.free hq6
        have qa : q5 ≠ ha := (n4.same s5).nea hq6
        have k46 : Keep h H4 H7 := (Keep.of_same (s5.trans s6)).trans k7
        have k8 : Keep h H4 (upd H7 q5 (.lst ((as5.map V.ref).eraseIdx i.toNat))) := k46.mut hq4
        have n8 : Hnd (upd H7 q5 (.lst ((as5.map V.ref).eraseIdx i.toNat))) h ha := n7.off qh qa
        have pz : PrsAt (upd H7 q5 (.lst ((as5.map V.ref).eraseIdx i.toNat))) q5 (as5.eraseIdx i.toNat) ((edgesL n (cvB n B)).eraseIdx i.toNat) := ⟨by rw [ptop, erase_map], its⟩
        have m28 := m24.hkeep k8 n4
        generalize upd H7 q5 (.lst ((as5.map V.ref).eraseIdx i.toNat)) = H8 at k8 n8 pz m28 ⊢
        walk_at "r"
        refine ⟨p, _, rfl, .inl (SqL.of m28.top), ?_⟩
        rw [List.length_map, m28.len]
        walk_at "r"
        refine ⟨n, q5, _, rfl, h24, pz.dp, fun p9 rs9 H9 m9 => ?_⟩
        walk_at "r"
        have pn : PO n (wM (refM ((edgesL n (cvB n B)).eraseIdx i.toNat)) n) rk := po_of po.n1 h24 (fun z hz => by
          obtain ⟨x, y⟩ := z
          obtain ⟨hx, hy, hc⟩ := edges_mem.mp (List.mem_of_mem_eraseIdx hz)
          have st := sB_iff.mp (cvB_iff.mp hc).1
          exact ⟨hx, hy, po.up x y hx hy (Ne.symm st.1) st.2⟩) (fun x hx h0 => po.up 0 x (by omega) hx (Ne.symm h0) (po.ls x hx))
        exact ⟨h, ha, p, p9, n, n, B, _, rk, rk, rs, rs9, rfl, n8.same m9.same, po, pn, m28.same m9.same, m9.mat, k⟩
      · exact ⟨_, rfl, _, rfl, _, rfl, h, ha, p, p2, n, nn2, B, B2, rk, rk2, rs, rs2, rfl, n4.same s5, po, po2, m24.same s5, m34.same s5, k⟩
    · exact ⟨_, rfl, _, rfl, _, rfl, h, ha, p, p2, n, nn2, B, B2, rk, rk2, rs, rs2, rfl, n4, po, po2, m24, m34, k⟩
end
end Z

set_option Elab.async false
set_option linter.all false
set_option maxRecDepth 100000
set_option maxHeartbeats 2100000
namespace Z
open PySem L2
open PySem.Spec PyProof.Rows
/-! ### what the top has written -/
theorem fun_of {K : PySem.W.Frag} {x q : Str} {st : Stmt} {f : Addr} {fd : FuncData} (F : FunD K x q (defArgs st) (defBody st) (defScope st) [] [] f fd) : Fun K x q st f fd := by
  obtain ⟨oc, od, dV, kV, doc, pm, an, cdv, ct, osl, e, lk, hcd, hD, hK⟩ := F.ex
  rcases hD with ⟨_, rfl⟩ | ⟨z, _⟩
  · exact ⟨⟨oc, od, kV, doc, pm, an, cdv, ct, osl, e, lk, hcd⟩, F.kp⟩
  · exact absurd rfl z
/-- the class at C: an exception's, of ValueError's line -/
def exB (K : PySem.W.Frag) (C : Addr) : Bool :=
  match K.lookup C with
  | some ⟨.type "type", _, .cls cd, sl⟩ =>
    (match cd.mro, sl.toList with
    | .ref D :: bm, [_, _, _, _, some (.builtin n), _] => (D == C) && ((n == "ValueError.__new__") && (!cd.hasDel && (cd.hasDict && PySem.HandSPX.refsVE bm)))
    | _, _ => false)
  | _ => false
theorem exB_ok {K : PySem.W.Frag} {C : Addr} (h : exB K C = true) : ∃ nm q N bs bm sn sub ab col dd k0 k1 k2 k3 k5, K.lookup C = some (excClassObj nm q C N bs bm true sn sub ab col dd k0 k1 k2 k3 k5 "ValueError.__new__") ∧ PySem.HandSPX.refsVE bm = true := by
  unfold exB at h
  split at h
  · rename_i dd cd sl ho
    split at h
    · rename_i D bm k0 k1 k2 k3 n k5 hm hs
      simp only [Bool.and_eq_true, beq_iff_eq, Bool.not_eq_true'] at h
      obtain ⟨rfl, rfl, h1, h2, h3⟩ := h
      obtain ⟨nm, bs, mro, ns, qn, hd, sn, sub, ab, col, del⟩ := cd
      dsimp only at hm h1 h2
      subst hm h1 h2
      have e : sl = #[k0, k1, k2, k3, some (.builtin "ValueError.__new__"), k5] := by
        obtain ⟨l⟩ := sl
        simp only at hs
        rw [hs]
      subst e
      exact ⟨nm, qn, ns, bs, bm, sn, sub, ab, col, dd, k0, k1, k2, k3, k5, ho, h3⟩
    · cases h
  · cases h
open He in
/-- of the error's class and the order's -/
def exL (K : PySem.W.Frag) (C fI O : Addr) : List Bool :=
  [exB K C, eqO (PySem.W.findIn K (.ref C) "__setattr__") (some (some (.builtin "object.__setattr__"))), decide (PySem.W.subIn K (.ref C) (.type "BaseException") = some true),
   decide (PySem.W.typeIn K (.ref C) = some (.type "type")), PySem.W.keepIn K (.ref C), decide (PySem.W.typeIn K (.ref fI) = some (.type "function")), eqO (PySem.W.findIn K (.ref O) "__class__") (some (some (.builtin "object.__class__"))),
   eqO (PySem.W.specialIn K (.builtin "object.__class__") "__get__") (some (some (.builtin "getset_descriptor.__get__"))), decide (PySem.W.takesIn K (.builtin "object.__class__") = some true),
   decide (PySem.W.mroIn K O (.type "object") = some true), decide (PySem.W.kitOne K (.ref O) (.ref O) = some true)]
open He in
def exK (K : PySem.W.Frag) : Bool := (exL K (ga K "BadOrder") (ma K (ga K "BadOrder") "__init__") (ga K "Order")).all id
theorem all_at {l : List Bool} (h : l.all id = true) (i : Nat) {b : Bool} (e : l[i]? = some b) : b = true := List.all_eq_true.mp h b (List.mem_of_getElem? e)
/-! ### the Hook: facts by names and one Bool more -/
abbrev AlY : Type := He.AlD × Bool
structure SaysY (fa : List He.Fa) (fn : List He.DefD) (ex : PySem.W.Frag → Bool) (K : PySem.W.Frag) : Prop where
  d : He.SaysD fa fn K
  more : ex K = true
def obsY (n : Nat) (fa : List He.Fa) (fn : List He.DefD) (ex : PySem.W.Frag → Bool) (g : Addr → Option Obj) : AlY := (He.obsD fa fn (He.frG g (He.asD g n)), ex (He.frG g (He.asD g n)))
def hookY (n : Nat) (fa : List He.Fa) (fn : List He.DefD) (ex : PySem.W.Frag → Bool) : PySem.W.Hook where
  α := AlY
  obs := fun s => obsY n fa fn ex s.heap.get?
  val := fun _ => (He.valD fn, true)
  says := fun _ h => ∃ K : PySem.W.Frag, K.In h ∧ SaysY fa fn ex K
  of := fun _ _ e => ⟨_, He.frG_in, ⟨congrArg (fun z : AlY => z.1) e, congrArg (fun z : AlY => z.2) e⟩⟩
  keeps := fun _ _ _ ⟨K, hK, c⟩ k => ⟨K, PySem.W.Frag.In.keeps hK k, c⟩
theorem obsY_eq {n : Nat} {fa : List He.Fa} {fn : List He.DefD} {ex : PySem.W.Frag → Bool} {g : Addr → Option Obj} {s : Shared} (h : ∀ a, g a = s.heap.get? a) : obsY n fa fn ex g = (hookY n fa fn ex).obs s := by
  have e : g = s.heap.get? := funext h
  rw [e] <;> rfl
theorem run_walkE {l : PySem.W.OpenLaw} {n : Nat} {q : Program} {loose : List Str} {XP : (Str → Option Value) → Heap → Prop} {YP : World → Heap → Prop} {d : DefRec} {x : Str}
    (most : l.most = some n) (small : n ≤ sizeLine) (plain : d.params.defaults = [])
    (F : ∀ (w : World) (mg : Str → Option Value) (fa : Addr) (h : Heap), YP w h → h.Ns mainGlobals mg → mg d.name = some (.ref fa) →
      ∃ (K : PySem.W.Frag) (fd : FuncData) (sp : Sp), K.In h ∧ (∀ (s : Shared) (v : Value), BindsTo s fd ⟨[v], []⟩ [(x, v)]) ∧
        (∀ (H : Hp) (a : Addr) (zs : List Int), zs.length ≤ n → Only H → SqL K H a (zs.map V.int) → sp [.ref a] H (fun v _ => v = .bl true) fun _ _ _ => False) ∧
        ∀ base : Heap, K.In base → base.Ns mainGlobals mg → RunAt l.prog w K mg base fa fd [x] sp) :
    PySem.W.WalkO q loose XP YP l.row.toRowW d [] (fun f vs => PySem.call f vs) := by
  refine Att.attach_call most plain fun w _ st mg mb fa o pm cd doc a us zs G Y _ _ _ named here intsA short nogen => ?_
  obtain ⟨K, fd, sp, KX, binds, want, runs⟩ := F w mg fa _ Y G.T.g named
  exact run_call KX G.T.g G.T.b G.T.builtins G.T.nolimit nogen here intsA (Nat.le_trans short small) runs binds fun H only sq => want H a zs short only sq
end Z

set_option Elab.async false
set_option linter.all false
set_option maxRecDepth 100000
set_option maxHeartbeats 2100000
namespace Z
open PySem L2
open PySem.Spec PyProof.Rows
def fnL : List He.DefD := [
  ⟨("_law_mix", none), "_law_mix", "_law_mix", defArgs (top 17), defBody (top 17), defScope (top 17), [], []⟩,
  ⟨("_law_draw", none), "_law_draw", "_law_draw", defArgs (top 18), defBody (top 18), defScope (top 18), [], []⟩,
  ⟨("_law_over", none), "_law_over", "_law_over", defArgs (top 19), defBody (top 19), defScope (top 19), [], []⟩,
  ⟨("_law_edges", none), "_law_edges", "_law_edges", defArgs (top 20), defBody (top 20), defScope (top 20), [], []⟩,
  ⟨("_law_seq", none), "_law_seq", "_law_seq", defArgs (top 21), defBody (top 21), defScope (top 21), [], []⟩,
  ⟨("_law_shuffled", none), "_law_shuffled", "_law_shuffled", defArgs (top 22), defBody (top 22), defScope (top 22), [], []⟩,
  ⟨("_law_pairs", none), "_law_pairs", "_law_pairs", defArgs (top 23), defBody (top 23), defScope (top 23), [], []⟩,
  ⟨("_law_exact", none), "_law_exact", "_law_exact", defArgs (top 24), defBody (top 24), defScope (top 24), [], []⟩,
  ⟨("_law_above", none), "_law_above", "_law_above", defArgs (top 25), defBody (top 25), defScope (top 25), [], []⟩,
  ⟨("_law_told_right", none), "_law_told_right", "_law_told_right", defArgs (top 26), defBody (top 26), defScope (top 26), [], []⟩,
  ⟨("_law_hand", none), "_law_hand", "_law_hand", defArgs (top 27), defBody (top 27), defScope (top 27), [], []⟩,
  ⟨("_law_closed", none), "_law_closed", "_law_closed", defArgs (top 28), defBody (top 28), defScope (top 28), [], []⟩,
  ⟨("_law_order", none), "_law_order", "_law_order", defArgs (top 29), defBody (top 29), defScope (top 29), [], []⟩,
  ⟨("_law_any_order", none), "_law_any_order", "_law_any_order", defArgs (top 30), defBody (top 30), defScope (top 30), [], []⟩,
  ⟨("_law_both", none), "_law_both", "_law_both", defArgs (top 31), defBody (top 31), defScope (top 31), [], []⟩,
  ⟨("law", none), "law", "law", defArgs (top 32), defBody (top 32), defScope (top 32), [], []⟩,
  ⟨("is_whole", none), "is_whole", "is_whole", defArgs (top 5), defBody (top 5), defScope (top 5), [.non, .non], []⟩,
  ⟨("is_sequence", none), "is_sequence", "is_sequence", defArgs (top 6), defBody (top 6), defScope (top 6), [], []⟩,
  ⟨("is_couple", none), "is_couple", "is_couple", defArgs (top 7), defBody (top 7), defScope (top 7), [], []⟩,
  ⟨("_check_parts", none), "_check_parts", "_check_parts", defArgs (top 11), defBody (top 11), defScope (top 11), [], []⟩,
  ⟨("_closed", none), "_closed", "_closed", defArgs (top 12), defBody (top 12), defScope (top 12), [], []⟩,
  ⟨("_check_closed", none), "_check_closed", "_check_closed", defArgs (top 13), defBody (top 13), defScope (top 13), [], []⟩,
  ⟨("_is_cover", none), "_is_cover", "_is_cover", defArgs (top 14), defBody (top 14), defScope (top 14), [], []⟩,
  ⟨("BadOrder", some "__init__"), "__init__", "BadOrder.__init__", defArgs s_bo, defBody s_bo, defScope s_bo, [], []⟩,
  ⟨("Order", some "__init__"), "__init__", "Order.__init__", defArgs s_oi, defBody s_oi, defScope s_oi, [], []⟩,
  ⟨("Order", some "__len__"), "__len__", "Order.__len__", defArgs s_len, defBody s_len, defScope s_len, [], []⟩,
  ⟨("Order", some "__eq__"), "__eq__", "Order.__eq__", defArgs s_eq, defBody s_eq, defScope s_eq, [], []⟩,
  ⟨("Order", some "covers"), "covers", "Order.covers", defArgs s_cvs, defBody s_cvs, defScope s_cvs, [], []⟩,
  ⟨("Order", some "above"), "above", "Order.above", defArgs s_abv, defBody s_abv, defScope s_abv, [], []⟩,
  ⟨("Order", some "below"), "below", "Order.below", defArgs s_blw, defBody s_blw, defScope s_blw, [], []⟩,
  ⟨("Order", some "at_most"), "at_most", "Order.at_most", defArgs s_atm, defBody s_atm, defScope s_atm, [], []⟩]
def faL : List He.Fa := [.glo "_law_mix", .glo "_law_draw", .glo "_law_over", .glo "_law_edges", .glo "_law_seq", .glo "_law_shuffled", .glo "_law_pairs", .glo "_law_exact", .glo "_law_above", .glo "_law_told_right", .glo "_law_hand", .glo "_law_closed", .glo "_law_order", .glo "_law_any_order", .glo "_law_both", .glo "law", .glo "is_whole", .glo "is_sequence", .glo "is_couple", .glo "_check_parts", .glo "_closed", .glo "_check_closed", .glo "_is_cover", .glo "BadOrder", .glo "Order", .free "len", .free "int", .free "abs", .free "range", .free "enumerate", .free "list", .free "tuple", .free "isinstance", .free "bool", .free "str", .free "any", .free "repr", .int "MOST_STATES" 24, .int "MOST_PAIRS" 600, .mkr "Order", .cls "Order", .noat "Order" "n", .noat "Order" "_above", .noat "Order" "_below", .noat "Order" "_covers", .noat "Order" "_ends", .noat "Order" "edges", .noat "BadOrder" "what", .noat "BadOrder" "at", .meth "BadOrder" "__init__", .meth "Order" "__len__", .meth "Order" "__eq__", .meth "Order" "covers", .meth "Order" "above", .meth "Order" "below", .meth "Order" "at_most"]
theorem cal_of {P : Program} {w : World} {K : PySem.W.Frag} {mg : Str → Option Value} {base : Heap} {CX : CXT} {x q : Str} {st : Stmt} {f : Addr} {fd : FuncData} {ps : List Str} {k : Nat} {sp : Sp} (F : Fun K x q st f fd) (g : mg x = some (.ref f)) (b : Binds K fd ps []) (ok : FnOk P w K mg base CX k f fd ps sp) : Cal P w K mg base CX x k sp := ⟨⟨f, fd, ps, g, F.kp, b, ok⟩⟩
theorem calm_of {P : Program} {w : World} {K : PySem.W.Frag} {mg : Str → Option Value} {base : Heap} {CX : CXT} {C : Addr} {m : Str} {f : Addr} {fd : FuncData} {ps : List Str} {k : Nat} {sp : Sp} (h : Meth K C m f) (b : Binds K fd ps []) (ok : FnOk P w K mg base CX k f fd ps sp) : CalM P w K mg base CX C m k sp := ⟨⟨f, fd, ps, h, b, ok⟩⟩
theorem len3 {α : Type} {l : List α} (h : l.length = 3) : ∃ a b c, l = [a, b, c] := by
  match l, h with
  | [a, b, c], _ => exact ⟨a, b, c, rfl⟩
theorem wh_binds {K : PySem.W.Frag} {f : Addr} {fd : FuncData} (F : FunD K "is_whole" "is_whole" (defArgs s_whole) (defBody s_whole) (defScope s_whole) [.non, .non] [] f fd) : Binds K fd ["thing", "low", "high"] [] := by
  obtain ⟨ds, hv, hb⟩ := F.binds1 (ps := ["thing", "low", "high"]) 3 2 (by simp) rfl fun T kV doc pm an cdv ct us its h1 h2 => by
    obtain ⟨a, b, c, rfl⟩ := len3 h1
    obtain ⟨x, y, rfl⟩ := two_of h2
    exact ⟨_, rfl, rfl⟩
  cases hv
  exact hb
theorem ex_none {P : Program} {w : World} {K : PySem.W.Frag} {mg : Str → Option Value} {base : Heap} {f : Addr} {fd : FuncData} (F : Fun K "_law_exact" "_law_exact" s_exact f fd) : FnOk P w K mg base CX0 1 f fd ["told", "due"] (spEx K fun _ => false) := by
  refine F.ok (k := 0) sc_exact (fun vs H Q E h => ?_) (fun cdv A outer s H vs Q E hr h => ?_)
  · obtain ⟨x, y, d, _, _, _, h, _⟩ := h
    cases h
  · obtain ⟨x, y, d, _, _, _, h, _⟩ := h
    cases h
theorem facts {P : Program} {w : World} {K : PySem.W.Frag} {h : Heap} {mg : Str → Option Value} {f : Addr} (X : K.In h) (G : h.Ns mainGlobals mg) (hfa : mg ("law" : Str) = some (.ref f)) (c : SaysY faL fnL exK K) :
    ∃ fd : FuncData, (∀ (s : Shared) (v : Value), BindsTo s fd ⟨[v], []⟩ [("script", v)]) ∧ ∀ base : Heap, K.In base → base.Ns mainGlobals mg → RunAt P w K mg base f fd ["script"] (spLaw K) := by
  have gl : ∀ (i : Nat) (x : Str), faL[i]? = some (.glo x) → mg x = some (.ref (He.ga K x)) := fun i x e => He.glo_ok X G (c.d.fact i (f := .glo x) e)
  have fr : ∀ (i : Nat) (x : Str), faL[i]? = some (.free x) → mg x = none := fun i x e => He.free_ok X G (c.d.fact i (f := .free x) e)
  obtain ⟨fd_law_mix, D_law_mix⟩ := c.d.def_ 0 rfl
  have F_law_mix := fun_of (x := "_law_mix") (q := "_law_mix") (st := (top 17)) D_law_mix
  have b_law_mix := F_law_mix.binds (ps := ["number", "turn"]) fun _ _ _ _ _ _ us hl => match us, hl with | [_, _], _ => rfl
  have g_law_mix := gl 0 "_law_mix" rfl
  obtain ⟨fd_law_draw, D_law_draw⟩ := c.d.def_ 1 rfl
  have F_law_draw := fun_of (x := "_law_draw") (q := "_law_draw") (st := (top 18)) D_law_draw
  have b_law_draw := F_law_draw.binds (ps := ["hand", "many"]) fun _ _ _ _ _ _ us hl => match us, hl with | [_, _], _ => rfl
  have g_law_draw := gl 1 "_law_draw" rfl
  obtain ⟨fd_law_over, D_law_over⟩ := c.d.def_ 2 rfl
  have F_law_over := fun_of (x := "_law_over") (q := "_law_over") (st := (top 19)) D_law_over
  have b_law_over := F_law_over.binds (ps := ["below", "x"]) fun _ _ _ _ _ _ us hl => match us, hl with | [_, _], _ => rfl
  have g_law_over := gl 2 "_law_over" rfl
  obtain ⟨fd_law_edges, D_law_edges⟩ := c.d.def_ 3 rfl
  have F_law_edges := fun_of (x := "_law_edges") (q := "_law_edges") (st := (top 20)) D_law_edges
  have b_law_edges := F_law_edges.binds (ps := ["below"]) fun _ _ _ _ _ _ us hl => match us, hl with | [_], _ => rfl
  have g_law_edges := gl 3 "_law_edges" rfl
  obtain ⟨fd_law_seq, D_law_seq⟩ := c.d.def_ 4 rfl
  have F_law_seq := fun_of (x := "_law_seq") (q := "_law_seq") (st := (top 21)) D_law_seq
  have b_law_seq := F_law_seq.binds (ps := ["hand", "row"]) fun _ _ _ _ _ _ us hl => match us, hl with | [_, _], _ => rfl
  have g_law_seq := gl 4 "_law_seq" rfl
  obtain ⟨fd_law_shuffled, D_law_shuffled⟩ := c.d.def_ 5 rfl
  have F_law_shuffled := fun_of (x := "_law_shuffled") (q := "_law_shuffled") (st := (top 22)) D_law_shuffled
  have b_law_shuffled := F_law_shuffled.binds (ps := ["hand", "row"]) fun _ _ _ _ _ _ us hl => match us, hl with | [_, _], _ => rfl
  have g_law_shuffled := gl 5 "_law_shuffled" rfl
  obtain ⟨fd_law_pairs, D_law_pairs⟩ := c.d.def_ 6 rfl
  have F_law_pairs := fun_of (x := "_law_pairs") (q := "_law_pairs") (st := (top 23)) D_law_pairs
  have b_law_pairs := F_law_pairs.binds (ps := ["hand", "below"]) fun _ _ _ _ _ _ us hl => match us, hl with | [_, _], _ => rfl
  have g_law_pairs := gl 6 "_law_pairs" rfl
  obtain ⟨fd_law_exact, D_law_exact⟩ := c.d.def_ 7 rfl
  have F_law_exact := fun_of (x := "_law_exact") (q := "_law_exact") (st := (top 24)) D_law_exact
  have b_law_exact := F_law_exact.binds (ps := ["told", "due"]) fun _ _ _ _ _ _ us hl => match us, hl with | [_, _], _ => rfl
  have g_law_exact := gl 7 "_law_exact" rfl
  obtain ⟨fd_law_above, D_law_above⟩ := c.d.def_ 8 rfl
  have F_law_above := fun_of (x := "_law_above") (q := "_law_above") (st := (top 25)) D_law_above
  have b_law_above := F_law_above.binds (ps := ["below", "x"]) fun _ _ _ _ _ _ us hl => match us, hl with | [_, _], _ => rfl
  have g_law_above := gl 8 "_law_above" rfl
  obtain ⟨fd_law_told_right, D_law_told_right⟩ := c.d.def_ 9 rfl
  have F_law_told_right := fun_of (x := "_law_told_right") (q := "_law_told_right") (st := (top 26)) D_law_told_right
  have b_law_told_right := F_law_told_right.binds (ps := ["order", "below"]) fun _ _ _ _ _ _ us hl => match us, hl with | [_, _], _ => rfl
  have g_law_told_right := gl 9 "_law_told_right" rfl
  obtain ⟨fd_law_hand, D_law_hand⟩ := c.d.def_ 10 rfl
  have F_law_hand := fun_of (x := "_law_hand") (q := "_law_hand") (st := (top 27)) D_law_hand
  have b_law_hand := F_law_hand.binds (ps := ["script"]) fun _ _ _ _ _ _ us hl => match us, hl with | [_], _ => rfl
  have g_law_hand := gl 10 "_law_hand" rfl
  obtain ⟨fd_law_closed, D_law_closed⟩ := c.d.def_ 11 rfl
  have F_law_closed := fun_of (x := "_law_closed") (q := "_law_closed") (st := (top 28)) D_law_closed
  have b_law_closed := F_law_closed.binds (ps := ["n", "pairs"]) fun _ _ _ _ _ _ us hl => match us, hl with | [_, _], _ => rfl
  have g_law_closed := gl 11 "_law_closed" rfl
  obtain ⟨fd_law_order, D_law_order⟩ := c.d.def_ 12 rfl
  have F_law_order := fun_of (x := "_law_order") (q := "_law_order") (st := (top 29)) D_law_order
  have b_law_order := F_law_order.binds (ps := ["hand", "most"]) fun _ _ _ _ _ _ us hl => match us, hl with | [_, _], _ => rfl
  have g_law_order := gl 12 "_law_order" rfl
  obtain ⟨fd_law_any_order, D_law_any_order⟩ := c.d.def_ 13 rfl
  have F_law_any_order := fun_of (x := "_law_any_order") (q := "_law_any_order") (st := (top 30)) D_law_any_order
  have b_law_any_order := F_law_any_order.binds (ps := ["hand"]) fun _ _ _ _ _ _ us hl => match us, hl with | [_], _ => rfl
  have g_law_any_order := gl 13 "_law_any_order" rfl
  obtain ⟨fd_law_both, D_law_both⟩ := c.d.def_ 14 rfl
  have F_law_both := fun_of (x := "_law_both") (q := "_law_both") (st := (top 31)) D_law_both
  have b_law_both := F_law_both.binds (ps := ["hand", "one", "other"]) fun _ _ _ _ _ _ us hl => match us, hl with | [_, _, _], _ => rfl
  have g_law_both := gl 14 "_law_both" rfl
  obtain ⟨fd_law, D_law⟩ := c.d.def_ 15 rfl
  have F_law := fun_of (x := "law") (q := "law") (st := (top 32)) D_law
  have b_law := F_law.binds (ps := ["script"]) fun _ _ _ _ _ _ us hl => match us, hl with | [_], _ => rfl
  have g_law := gl 15 "law" rfl
  obtain ⟨fd_is_whole, D_is_whole⟩ := c.d.def_ 16 rfl
  have g_is_whole := gl 16 "is_whole" rfl
  obtain ⟨fd_is_sequence, D_is_sequence⟩ := c.d.def_ 17 rfl
  have F_is_sequence := fun_of (x := "is_sequence") (q := "is_sequence") (st := (top 6)) D_is_sequence
  have b_is_sequence := F_is_sequence.binds (ps := ["thing"]) fun _ _ _ _ _ _ us hl => match us, hl with | [_], _ => rfl
  have g_is_sequence := gl 17 "is_sequence" rfl
  obtain ⟨fd_is_couple, D_is_couple⟩ := c.d.def_ 18 rfl
  have F_is_couple := fun_of (x := "is_couple") (q := "is_couple") (st := (top 7)) D_is_couple
  have b_is_couple := F_is_couple.binds (ps := ["thing", "high"]) fun _ _ _ _ _ _ us hl => match us, hl with | [_, _], _ => rfl
  have g_is_couple := gl 18 "is_couple" rfl
  obtain ⟨fd_check_parts, D_check_parts⟩ := c.d.def_ 19 rfl
  have F_check_parts := fun_of (x := "_check_parts") (q := "_check_parts") (st := (top 11)) D_check_parts
  have b_check_parts := F_check_parts.binds (ps := ["n", "pairs"]) fun _ _ _ _ _ _ us hl => match us, hl with | [_, _], _ => rfl
  have g_check_parts := gl 19 "_check_parts" rfl
  obtain ⟨fd_closed, D_closed⟩ := c.d.def_ 20 rfl
  have F_closed := fun_of (x := "_closed") (q := "_closed") (st := (top 12)) D_closed
  have b_closed := F_closed.binds (ps := ["n", "pairs"]) fun _ _ _ _ _ _ us hl => match us, hl with | [_, _], _ => rfl
  have g_closed := gl 20 "_closed" rfl
  obtain ⟨fd_check_closed, D_check_closed⟩ := c.d.def_ 21 rfl
  have F_check_closed := fun_of (x := "_check_closed") (q := "_check_closed") (st := (top 13)) D_check_closed
  have b_check_closed := F_check_closed.binds (ps := ["less"]) fun _ _ _ _ _ _ us hl => match us, hl with | [_], _ => rfl
  have g_check_closed := gl 21 "_check_closed" rfl
  obtain ⟨fd_is_cover, D_is_cover⟩ := c.d.def_ 22 rfl
  have F_is_cover := fun_of (x := "_is_cover") (q := "_is_cover") (st := (top 14)) D_is_cover
  have b_is_cover := F_is_cover.binds (ps := ["less", "low", "high"]) fun _ _ _ _ _ _ us hl => match us, hl with | [_, _, _], _ => rfl
  have g_is_cover := gl 22 "_is_cover" rfl
  obtain ⟨fd_BadOrder, D_BadOrder⟩ := c.d.def_ 23 rfl
  have F_BadOrder := fun_of (x := "__init__") (q := "BadOrder.__init__") (st := s_bo) D_BadOrder
  have b_BadOrder := F_BadOrder.binds (ps := ["self", "what", "at"]) fun _ _ _ _ _ _ us hl => match us, hl with | [_, _, _], _ => rfl
  obtain ⟨fd_Order, D_Order⟩ := c.d.def_ 24 rfl
  have F_Order := fun_of (x := "__init__") (q := "Order.__init__") (st := s_oi) D_Order
  have b_Order := F_Order.binds (ps := ["self", "n", "pairs"]) fun _ _ _ _ _ _ us hl => match us, hl with | [_, _, _], _ => rfl
  obtain ⟨fd_m_len, D_m_len⟩ := c.d.def_ 25 rfl
  have F_m_len := fun_of (x := "__len__") (q := "Order.__len__") (st := s_len) D_m_len
  have b_m_len := F_m_len.binds (ps := ["self"]) fun _ _ _ _ _ _ us hl => match us, hl with | [_], _ => rfl
  obtain ⟨fd_m_eq, D_m_eq⟩ := c.d.def_ 26 rfl
  have F_m_eq := fun_of (x := "__eq__") (q := "Order.__eq__") (st := s_eq) D_m_eq
  have b_m_eq := F_m_eq.binds (ps := ["self", "other"]) fun _ _ _ _ _ _ us hl => match us, hl with | [_, _], _ => rfl
  obtain ⟨fd_m_cvs, D_m_cvs⟩ := c.d.def_ 27 rfl
  have F_m_cvs := fun_of (x := "covers") (q := "Order.covers") (st := s_cvs) D_m_cvs
  have b_m_cvs := F_m_cvs.binds (ps := ["self", "state"]) fun _ _ _ _ _ _ us hl => match us, hl with | [_, _], _ => rfl
  obtain ⟨fd_m_abv, D_m_abv⟩ := c.d.def_ 28 rfl
  have F_m_abv := fun_of (x := "above") (q := "Order.above") (st := s_abv) D_m_abv
  have b_m_abv := F_m_abv.binds (ps := ["self", "state"]) fun _ _ _ _ _ _ us hl => match us, hl with | [_, _], _ => rfl
  obtain ⟨fd_m_blw, D_m_blw⟩ := c.d.def_ 29 rfl
  have F_m_blw := fun_of (x := "below") (q := "Order.below") (st := s_blw) D_m_blw
  have b_m_blw := F_m_blw.binds (ps := ["self", "state"]) fun _ _ _ _ _ _ us hl => match us, hl with | [_, _], _ => rfl
  obtain ⟨fd_m_atm, D_m_atm⟩ := c.d.def_ 30 rfl
  have F_m_atm := fun_of (x := "at_most") (q := "Order.at_most") (st := s_atm) D_m_atm
  have b_m_atm := F_m_atm.binds (ps := ["self", "one", "other"]) fun _ _ _ _ _ _ us hl => match us, hl with | [_, _, _], _ => rfl
  have g_BadOrder := gl 23 "BadOrder" rfl
  have g_Order := gl 24 "Order" rfl
  have T : Bl mg := ⟨fr 25 "len" rfl, fr 26 "int" rfl, fr 27 "abs" rfl, fr 28 "range" rfl, fr 29 "enumerate" rfl, fr 30 "list" rfl, fr 31 "tuple" rfl, fr 32 "isinstance" rfl, fr 33 "bool" rfl, fr 34 "str" rfl, fr 35 "any" rfl, fr 36 "repr" rfl⟩
  have e := hfa.symm.trans g_law
  cases e
  have m := c.more
  have x (i : Nat) {b : Bool} (e : (exL K (He.ga K "BadOrder") (He.ma K (He.ga K "BadOrder") "__init__") (He.ga K "Order"))[i]? = some b) : b = true := all_at m i e
  have ox : OexC K (He.ga K "BadOrder") := ⟨exB_ok (x 0 rfl), He.eqO_ok (x 1 rfl), of_decide_eq_true (x 2 rfl), of_decide_eq_true (x 3 rfl), x 4 rfl⟩
  have mb := He.meth_ok (c.d.fact 49 (f := .meth "BadOrder" "__init__") rfl)
  have n1 := He.noat_ok (c.d.fact 47 (f := .noat "BadOrder" "what") rfl)
  have n2 := He.noat_ok (c.d.fact 48 (f := .noat "BadOrder" "at") rfl)
  have B : ExC K mg (He.ga K "BadOrder") (He.ma K (He.ga K "BadOrder") "__init__") := ⟨ox, g_BadOrder, mb.at_, of_decide_eq_true (x 5 rfl), n1, n2⟩
  have no (i : Nat) (a : Str) (e : faL[i]? = some (.noat "Order" a)) : NoAttr K (He.ga K "Order") a := He.noat_ok (c.d.fact i (f := .noat "Order" a) e)
  have OC : OrC K (He.ga K "Order") := ⟨He.cls_ok (c.d.fact 40 (f := .cls "Order") rfl), no 41 "n" rfl, no 42 "_above" rfl, no 43 "_below" rfl, no 44 "_covers" rfl, no 45 "_ends" rfl, no 46 "edges" rfl⟩
  have O : OrI K mg (He.ga K "Order") := ⟨OC, g_Order, He.eqO_ok (x 6 rfl), He.eqO_ok (x 7 rfl), of_decide_eq_true (x 8 rfl), of_decide_eq_true (x 9 rfl), of_decide_eq_true (x 10 rfl)⟩
  have MO := He.mkr_ok (c.d.fact 39 (f := .mkr "Order") rfl)
  have CN : Cn mg := ⟨He.int_ok X G (c.d.fact 37 (f := .int "MOST_STATES" 24) rfl), He.int_ok X G (c.d.fact 38 (f := .int "MOST_PAIRS" 600) rfl)⟩
  have bl := FunD.bindsA (ps := ["script"]) D_law fun _ _ _ _ _ _ us hl => match us, hl with | [_], _ => rfl
  refine ⟨fd_law, fun s v => bl s [v] rfl, fun base _ _ => ?_⟩
  have h_len := He.meth_ok (c.d.fact 50 (f := .meth "Order" "__len__") rfl)
  have k_len : CalM P w K mg base CX0 (He.ga K "Order") "__len__" 1 (spLenO (He.ga K "Order")) := calm_of h_len b_m_len (ok_len (P := P) (w := w) (base := base) F_m_len T O)
  have h_eq := He.meth_ok (c.d.fact 51 (f := .meth "Order" "__eq__") rfl)
  have k_eq : CalM P w K mg base CX0 (He.ga K "Order") "__eq__" 1 (spEqO (He.ga K "Order")) := calm_of h_eq b_m_eq (ok_eq (P := P) (w := w) (base := base) F_m_eq T O)
  have h_cvs := He.meth_ok (c.d.fact 52 (f := .meth "Order" "covers") rfl)
  have k_cvs : CalM P w K mg base CX0 (He.ga K "Order") "covers" 1 (spCvs (He.ga K "Order")) := calm_of h_cvs b_m_cvs (ok_cvs (P := P) (w := w) (base := base) F_m_cvs T O)
  have h_abv := He.meth_ok (c.d.fact 53 (f := .meth "Order" "above") rfl)
  have k_abv : CalM P w K mg base CX0 (He.ga K "Order") "above" 1 (spAbv (He.ga K "Order")) := calm_of h_abv b_m_abv (ok_abv (P := P) (w := w) (base := base) F_m_abv T O)
  have h_blw := He.meth_ok (c.d.fact 54 (f := .meth "Order" "below") rfl)
  have k_blw : CalM P w K mg base CX0 (He.ga K "Order") "below" 1 (spBlw (He.ga K "Order")) := calm_of h_blw b_m_blw (ok_blw (P := P) (w := w) (base := base) F_m_blw T O)
  have h_atm := He.meth_ok (c.d.fact 55 (f := .meth "Order" "at_most") rfl)
  have k_atm : CalM P w K mg base CX0 (He.ga K "Order") "at_most" 1 (spAtm (He.ga K "Order")) := calm_of h_atm b_m_atm (ok_atm (P := P) (w := w) (base := base) F_m_atm T O)
  have OM : OrMs P w K mg base (He.ga K "Order") := ⟨k_len, k_eq, k_cvs, k_abv, k_blw, k_atm⟩
  have k_mix := cal_of F_law_mix g_law_mix b_law_mix (ok_mix (P := P) (w := w) (base := base) F_law_mix T)
  have k_draw := cal_of F_law_draw g_law_draw b_law_draw (ok_draw F_law_draw T k_mix)
  have k_shuf := cal_of F_law_shuffled g_law_shuffled b_law_shuffled (ok_shuf F_law_shuffled T k_draw)
  have k_lcl := cal_of F_law_closed g_law_closed b_law_closed (ok_lcl2 (P := P) (w := w) (base := base) F_law_closed T)
  have k_lor := cal_of F_law_order g_law_order b_law_order (ok_lor2 F_law_order T k_draw k_shuf k_lcl)
  have k_any := cal_of F_law_any_order g_law_any_order b_law_any_order (ok_any F_law_any_order T k_draw k_lor)
  have k_e1 := cal_of F_law_exact g_law_exact b_law_exact (ex_none (P := P) (w := w) (base := base) F_law_exact)
  have k_e2 := cal_of F_law_exact g_law_exact b_law_exact (ok_exact F_law_exact T k_e1)
  have k_e3 := cal_of F_law_exact g_law_exact b_law_exact (ok_exact F_law_exact T k_e2)
  have k_e4 := cal_of F_law_exact g_law_exact b_law_exact (ok_exact F_law_exact T k_e3)
  have k_hand := cal_of F_law_hand g_law_hand b_law_hand (ok_hand (P := P) (w := w) (base := base) F_law_hand T)
  have k_seqd := cal_of F_law_seq g_law_seq b_law_seq (ok_seqd F_law_seq T k_draw)
  have k_over := cal_of F_law_over g_law_over b_law_over (ok_over (P := P) (w := w) (base := base) F_law_over T)
  have k_edg := cal_of F_law_edges g_law_edges b_law_edges (ok_edg F_law_edges T k_over)
  have k_lab := cal_of F_law_above g_law_above b_law_above (ok_lab (P := P) (w := w) (base := base) F_law_above T)
  have k_prs := cal_of F_law_pairs g_law_pairs b_law_pairs (ok_prs F_law_pairs T k_draw k_edg k_seqd k_shuf)
  have k_tr := cal_of F_law_told_right g_law_told_right b_law_told_right (ok_tr F_law_told_right T O OM k_e4 k_edg k_over k_lab)
  have w_ok := ok_whole (P := P) (w := w) (base := base) D_is_whole T
  have b_wh : Binds K fd_is_whole ["thing", "low", "high"] [] := wh_binds D_is_whole
  have k_wh : Cal P w K mg base CX0 "is_whole" 1 (spWhole K) := ⟨⟨_, _, _, g_is_whole, D_is_whole.kp, b_wh, w_ok⟩⟩
  have k_sq := cal_of F_is_sequence g_is_sequence b_is_sequence (ok_seq (P := P) (w := w) (base := base) F_is_sequence T)
  have k_cp := cal_of F_is_couple g_is_couple b_is_couple (ok_couple F_is_couple T k_sq k_wh)
  have k_parts := cal_of F_check_parts g_check_parts b_check_parts (ok_parts F_check_parts T CN B F_BadOrder b_BadOrder k_sq k_wh k_cp)
  have k_clo := cal_of F_closed g_closed b_closed (ok_closed (P := P) (w := w) (base := base) F_closed T)
  have k_cc := cal_of F_check_closed g_check_closed b_check_closed (ok_cc (P := P) (w := w) (base := base) F_check_closed T B F_BadOrder b_BadOrder)
  have k_cov := cal_of F_is_cover g_is_cover b_is_cover (ok_cov (P := P) (w := w) (base := base) F_is_cover T)
  have o_ok := ok_oi F_Order T OC k_parts k_clo k_cc k_cov
  have k_both : CalG P w K mg base "_law_both" 6 spBoth := ⟨⟨_, _, _, g_law_both, F_law_both.kp, b_law_both, ok_both F_law_both T O OM MO o_ok b_Order k_prs k_tr k_e4 k_edg⟩⟩
  exact run_law F_law T k_hand k_draw k_any k_edg k_lcl k_both
end Z

set_option Elab.async false
set_option linter.all false
set_option maxRecDepth 100000
set_option maxHeartbeats 0
namespace Z
open PySem L2
open PySem.Spec PyProof.Rows
abbrev Rw : PySem.W.OpenRow := PySem.W.OpenLaw.row PySem.Challenge.rw_spentframes_k00_orders_by_all_pairs
abbrev hkw : PySem.W.Hook := hookY 5 faL fnL exK
def obw (s : PySem.W.SharedT) : AlY := obsY 5 faL fnL exK (HandSHeadRun.getT s)
theorem obw_eq (s : PySem.W.SharedT) : obw s = hkw.obs s.abs := obsY_eq (HandSHeadRun.getT_eq s)
def loosew : List Str := ["_wall", "FrameError", "BadOrder", "is_whole", "is_sequence", "is_couple", "_check_parts", "_closed", "_check_closed", "_is_cover", "Order", "_law_mix", "_law_draw", "_law_over", "_law_edges", "_law_seq", "_law_shuffled", "_law_pairs", "_law_exact", "_law_above", "_law_told_right", "_law_hand", "_law_closed", "_law_order", "_law_any_order", "_law_both", "MOST_STATES", "MOST_PAIRS"]
theorem runw (w : World) : HandSHeadRun.RunEq Rw (PySem.W.view Rw.prog [32]) hkw obw 3000 loosew w := by
  intro os
  kernel_rfl
end Z
open PySem PySem.W PySem.Calls PyProof.Rows
theorem PySem.Challenge.cw_spentframes_k00_orders_by_all_pairs_holds : PySem.Challenge.rw_spentframes_k00_orders_by_all_pairs.Holds := by
  w_on; o_law
  refine HandSHeadRun.head_any (r := OpenLaw.row PySem.Challenge.rw_spentframes_k00_orders_by_all_pairs) (q := view (OpenLaw.row PySem.Challenge.rw_spentframes_k00_orders_by_all_pairs).prog [32]) (H := Z.hkw) (ob := Z.obw) (M := 3000) (loose := Z.loosew) (d := HandSHeadRun.topDef (OpenLaw.row PySem.Challenge.rw_spentframes_k00_orders_by_all_pairs).prog 32) (kwd := []) Z.obw_eq
    (by kernel_rfl) (fun s => by kernel_rfl) Z.runw (by kernel_rfl) (by kernel_rfl) (by kernel_rfl) (by rfl) (by first | assumption | decide +kernel) (by decide +kernel) ⟨rfl, rfl, rfl, rfl, rfl, by decide +kernel⟩ ?hw ?hc
  case hw => w_witness2
  case hc =>
    refine Z.run_walkE (l := PySem.Challenge.rw_spentframes_k00_orders_by_all_pairs) (n := 63) (x := "script") rfl (by decide) (by kernel_rfl) ?F
    intro w mg fa h Y G hmg0
    obtain ⟨K, KX, c⟩ := Y
    have hmg : mg ("law" : PySem.Str) = some (.ref fa) := by
      have e : (HandSHeadRun.topDef (OpenLaw.row PySem.Challenge.rw_spentframes_k00_orders_by_all_pairs).prog 32).name = ("law" : PySem.Str) := by kernel_rfl
      rw [← e]
      exact hmg0
    obtain ⟨fd, hb, hF⟩ := Z.facts (P := (PySem.Challenge.rw_spentframes_k00_orders_by_all_pairs).prog) (w := w) KX G hmg c
    exact ⟨K, fd, Z.spLaw K, KX, hb, fun H a ns hl _ hS => ⟨a, ns, rfl, hS, hl, fun _ => rfl⟩, hF⟩
