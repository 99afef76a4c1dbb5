import PyProof.Rows.All
import Wide.All
import OpenK.AllK
import Wide.FinOn
import HandS.GenList
import PyProof.EqAt
import PyProof.EqKinds
import PyProof.TupleCall
import HandS.Base
import HandS.Call
import HandS.List
import HandS.Comp
import HandS.Iter
import HandS.Ends
import HandS.Words
import HandS.WordsList
import KE.GoesMore
import KE.GoesEnum
import PyProof.EnumMake
import PyProof.Draws
import HandS.Walk
import HandS.IsInst
import HandS.Flow
import HandS.TupLe
import HandS.Defaults
import HandS.NoneIn
import HandS.TupAny
import HandS.Lambda
import HandS.AnyAll
import HandS.More
import PyProof.EqLayable
import HandS.Conv
import HandS.Zip
import HandS.WordsExc
import HandS.Dict
import KE.KDictList
import HandS.Strs
import HandS.Exc
import HandS.ExcOwn
import HandS.ExcInit
import HandS.ExcField
import HandS.TryMany
import HandS.CallSlots
import KE.KExcIs
import HandS.SetFor
import HandS.Gcd
import KE.KMathGC
import PySem.Challenge.RW_spentframes_k02_orders_by_a_rule
import HandS.OwnEq
import HandS.Property
import OpenK.KOps
import KE.KSortKey
import HandS.Sort
import KE.SortKeyHeap
import PyProof.FactsAll.list_4
import HandS.SortInts
import KE.SortData
import HandS.WideBits
import HandS.Deep
import PyProof.ReprRoads
import PyProof.ReprLen
import PyProof.Rows.RegStrFacts
import PyProof.CallFns
import PyProof.ExcBaseAll.ValueError
import KE.KStateDown
import HandS.Head0
import HandS.Head1
import HandS.Head2
import HandS.HeadEnd
import HandS.HeadHook1
import HandS.HeadHook2
import HandS.EndTab
import HandS.NestedK
import HandS.HeadHook4
set_option Elab.async false
set_option linter.all false
set_option maxRecDepth 100000
set_option maxHeartbeats 1000000
/-! own rules: if and for within a generator def -/
namespace L2
open PySem PySem.Spec PyProof.Rows GenW
section
variable {X : Cx}
def tGIf (c : TT) (t u : TGn) : TGn := fun D ys σ H => c σ H fun b H1 => if b = true then t D ys σ H1 else u D ys σ H1
theorem gs_if {c : Expr} {a b : List Stmt} {tc : TT} {t u : TGn} {pos : Pos} (hc : PT X c tc) (ha : GSs X a t) (hb : GSs X b u) : GS X (.If c a b pos) (tGIf tc t u) := by
  refine ⟨fun A S ip R n ys s₀ cd fs K J gd lv s σ H D g hn k hI ht => ?_⟩
  rw [exec_If]
  refine seg_bind_wrap (wpAny_standAt ?_)
  refine seg_bind_wrap ?_
  rw [g.over]
  obtain ⟨acc, cc, r, I⟩ := hI
  refine wpAny_mono (hc.run _ s σ H _ I ht) (fun q s' hq => ?_) fun x s' hx => k.exc n s₀ x s' hx
  obtain ⟨H2, I2, q2⟩ := hq
  cases q with
  | true => exact ha.run A S ip R n ys s₀ cd fs K J gd lv s' σ H2 D g hn k ⟨acc, cc, r, I2⟩ (by simpa using q2)
  | false => exact hb.run A S ip R n ys s₀ cd fs K J gd lv s' σ H2 D g hn k ⟨acc, cc, r, I2⟩ (by simpa using q2)
def tGFor (wi : TI) (g : TG) (tb : TGn) : TGn := fun D ys σ H => wi σ H fun J H1 => ∃ W : Nat → Nat → List V → St → Hp → Prop, (∃ m, W 0 m ys σ H1) ∧ ∀ i m ys σ H, W i m ys σ H →
  (J.stop i H ∧ D.nx ys σ H) ∨ (J.go i H ∧ ∃ N : List V → St → Hp → Prop, (∀ ys' σ' H', N ys' σ' H' → ∃ m', m' < m ∧ W (i + 1) m' ys' σ' H') ∧ ∀ x H', J.yld i H x H' → g x σ H' fun σ2 H2 => tb { D with nx := N, ct := N, bk := D.nx } ys σ2 H2)
theorem gs_for {tg iter : Expr} {body : List Stmt} {wi : TI} {g : TG} {tb : TGn} {pos : Pos} (hp : PassesOwn (model X.prog X.w) X.A X.env X.xe) (hc : X.calm = true) (hi : PI X tg iter wi) (hg : PG X tg g) (hb : GSs X body tb)
    (hs : ∀ x, foldedSetIterable iter X.env x = pure x := by intro _; rfl) : GS X (.For tg iter body [] pos) (tGFor wi g tb) := by
  refine ⟨fun A S ip R n ys s₀ cd fs K J gd lv s σ H D gc hn k hI ht => ?_⟩
  rw [exec_For]
  refine seg_bind_wrap (wpAny_standAt ?_)
  refine seg_bind_wrap ?_
  rw [gc.over]
  obtain ⟨acc, cc, r, I⟩ := hI
  refine wpAny_mono (hi.run _ s σ H _ I ht) (fun v s1 h1 => ?_) fun x s' hx => k.exc n s₀ x s' hx
  rw [hs]
  refine seg_bind_wrap (wpAny_pure ?_)
  refine seg_bind_wrap (wpAny_standAt ?_)
  refine seg_bind_wrap (wpAny_holding ?_)
  rw [gc.over]
  refine wpAny_mono h1 (fun itv s2 h2 => ?_) fun x s' hx => k.exc n s₀ x s' hx
  obtain ⟨it, fp, tn, JT, H2, e, I2, T, st2, f2, W, ⟨m0, w0⟩, turn⟩ := h2
  subst e
  refine seg_call fun p => ?_
  have gl := fun (kk : Result → Sem PySem.Fin) => gc_loop (k := kk) (c' := .forLoop tg (.ref it) body [] X.env) (l := lv []) (kp := []) (p := p) gc rfl rfl
  have stat : ∀ {H' : Hp} {sp : List (Addr × Obj)}, (∀ q ∈ sp, q.1 = S) → (∀ b ∈ fp, H' b = none) → ∀ b ∈ fp, FpOk X (sp ++ ip) H' b := fun {H' sp} hS hn b hb => by
    obtain ⟨_, q1, q2, q3, q4, q5⟩ := f2 b hb
    refine ⟨hn b hb, q1, q2, q3, q4, fun z hz => ?_⟩
    rcases List.mem_append.mp hz with y | y
    · exact q5 z (List.mem_append_left _ y)
    · rcases List.mem_append.mp y with y | y
      · rw [hS z y]
        exact q5 (S, lstObj acc cc) (List.mem_append_right _ List.mem_cons_self)
      · exact q5 z (List.mem_append_right _ (List.mem_cons_of_mem _ y))
  have fS : ∀ b ∈ fp, b ≠ S := fun b hb z => (f2 b hb).2.2.2.2.2 (S, lstObj acc cc) (List.mem_append_right _ List.mem_cons_self) z.symm
  have loop : ∀ (m n i : Nat) (ys : List V) (s₀ s : Shared) (σ : St) (H : Hp), n + ys.length = sizeLine → W i m ys σ H → GI X S ip ys σ H s → tn i s.heap → (∀ b ∈ fp, H b = none) →
      Seg (model X.prog X.w) A R (GY X S) n s₀ (.forLoop tg (.ref it) body [] X.env) ((model X.prog X.w).den (.forLoop tg (.ref it) body [] X.env))
        (.ret (fun r => ((match r with | .ok f => (.pure f : Sem Flow) | .error e => .raise e).onRaise (cameBack X.env)).wrap K J gd lv) none (gd false) (lv []) cd p [] :: fs) s := by
    intro m
    induction m using Nat.strongRecOn with
    | ind m ih =>
      intro n i ys s₀ s3 σ3 H3 hn w3 hI st3 fr3
      have ee : ∀ (n : Nat) (s₀ : Shared) (x : Value) (s' : Shared), X.xe x s' → Seg (model X.prog X.w) A R (GY X S) n s₀ (.forLoop tg (.ref it) body [] X.env)
          ((do noteFrame x X.env; theTreesLotGoes x : Sem Unit).bind (fun _ => (.raise x : Sem PySem.Fin)))
          (.ret (fun r => ((match r with | .ok f => (.pure f : Sem Flow) | .error e => .raise e).onRaise (cameBack X.env)).wrap K J gd lv) none (gd false) (lv []) cd p [] :: fs) s' := fun n s₀ x s' hx => by
        rw [Sem.bind_eq_wrap]
        refine seg_wrap ?_
        rw [(gl _).over]
        refine wpAny_bind (wpAny_mono (hp x s' hx) (fun _ s'' hcb => wpAny_theTreesLotGoes ?_) fun y s'' hcb => ?_)
        · exact seg_leaf (.error x) (seg_cameBack gc k hcb)
        · exact seg_leaf (.error y) (seg_cameBack gc k hcb)
      show Seg _ A R _ n s₀ _ ((forTurn tg (.ref it) body [] X.env).onRaise (fun x => do noteFrame x X.env; theTreesLotGoes x)) _ s3
      rw [Sem.onRaise_eq_wrap]
      unfold forTurn
      refine seg_bind_wrap (wpAny_standAt ?_)
      refine seg_bind_wrap ?_
      rw [(gl _).over]
      obtain ⟨acc3, cc3, r3, I3⟩ := hI
      have one : ∀ q ∈ [(S, lstObj acc3 cc3)], q.1 = S := fun q hq => by rw [List.mem_singleton.mp hq]
      rcases turn i m ys σ3 H3 w3 with ⟨stop, qn⟩ | ⟨go, N, hN, step⟩
      · refine wpAny_onRaise (wpAny_mono (T.done X rfl rfl rfl hc i _ s3 σ3 H3 X.xe I3 (stat (sp := [(S, lstObj acc3 cc3)]) one fr3) st3 stop) (fun r s4 hr => ?_) fun x s' hx => wpAny_standAt (ee n s₀ x s' hx))
        obtain ⟨rfl, I4⟩ := hr
        refine seg_again rfl ?_
        refine seg_leaf (.ok .next) (k.ok n ys s₀ s4 .next hn ⟨σ3, H3, ⟨acc3, cc3, r3, I4⟩, qn⟩)
      · refine wpAny_onRaise (wpAny_mono (T.item X rfl rfl rfl hc i _ s3 σ3 H3 X.xe I3 (stat (sp := [(S, lstObj acc3 cc3)]) one fr3) st3 go) (fun r s4 hr => ?_) fun x s' hx => wpAny_standAt (ee n s₀ x s' hx))
        obtain ⟨u, rfl, h4⟩ := hr
        refine seg_bind_wrap ?_
        rw [(gl _).over]
        refine wpAny_mono h4 (fun _ s5 h5 => ?_) fun x s' hx => ee n s₀ x s' hx
        obtain ⟨x, H5, I5, r5, y5, st5, fr5⟩ := h5
        have I5' := I5.pinned (stat (sp := [(S, lstObj acc3 cc3)]) one fr5) (T.obj _ _ st5)
        refine seg_bind_wrap ?_
        rw [(gl _).over]
        refine wpAny_mono (hg.run _ s5 σ3 H5 x u _ I5' r5 (step x H5 y5)) (fun _ s6 h6 => ?_) fun x s' hx => ee n s₀ x s' hx
        obtain ⟨σ6, H6, I6, q6⟩ := h6
        have ipS : ∀ q ∈ ip ++ pinsAt fp s5.heap, q.1 ≠ S := fun q hq => by
          rcases List.mem_append.mp hq with y | y
          · exact gc.ip q y
          · exact fS _ (of_pinsAt y).1
        have g5 : GC X S (ip ++ pinsAt fp s5.heap) A (.forLoop tg (.ref it) body [] X.env) (.ret (fun r => ((match r with | .ok f => (.pure f : Sem Flow) | .error e => .raise e).onRaise (cameBack X.env)).wrap K J gd lv) none (gd false) (lv []) cd p [] :: fs) id :=
          ⟨gc.pn, ipS, gc.apart, (gl _).over, (gl _).split, (gl _).guard, rfl⟩
        rw [Sem.bind_eq_wrap', Sem.wrap_wrap]
        refine hb.run A S (ip ++ pinsAt fp s5.heap) R n ys s₀ _ _ _ _ id id s6 σ6 H6 { D with nx := N, ct := N, bk := D.nx } g5 hn ⟨fun n' ys' s₀' s7 f hn' hs => ?_, fun n' s₀' x s7 hx => ee n' s₀' x s7 hx⟩ ⟨acc3, cc3, r3, I6⟩ q6
        have unp : ∀ {σ7 : St} {H7 : Hp}, GI X S (ip ++ pinsAt fp s5.heap) ys' σ7 H7 s7 → GI X S ip ys' σ7 H7 s7 := fun {σ7 H7} hG => by
          obtain ⟨a7, c7, r7, I7⟩ := hG
          refine ⟨a7, c7, r7, ?_⟩
          have I7' : Inv X (((S, lstObj a7 c7) :: ip) ++ pinsAt fp s5.heap) σ7 H7 s7 := I7
          exact I7'.unpinned
        have again : ∀ {σ7 : St} {H7 : Hp}, GI X S (ip ++ pinsAt fp s5.heap) ys' σ7 H7 s7 → N ys' σ7 H7 → Seg (model X.prog X.w) A R (GY X S) n' s₀' (.forLoop tg (.ref it) body [] X.env) (.pure (.again (.forLoop tg (.ref it) body [] X.env)))
            (.ret (fun r => ((match r with | .ok f => (.pure f : Sem Flow) | .error e => .raise e).onRaise (cameBack X.env)).wrap K J gd lv) none (gd false) (lv []) cd p [] :: fs) s7 := fun {σ7 H7} hG n7 => by
          obtain ⟨m', hm, w7⟩ := hN ys' σ7 H7 n7
          have hG' := unp hG
          obtain ⟨a7, c7, r7, I7⟩ := hG
          have at7 : ∀ b ∈ fp, ∀ o, s5.heap.get? b = some o → s7.heap.get? b = some o ∧ H7 b = none := fun b hb o e => by
            have := I7.pin (b, o) (List.mem_append_right _ (List.mem_cons_of_mem _ (List.mem_append_right _ (mem_pinsAt hb e))))
            exact ⟨this.1, this.2.1⟩
          refine seg_again rfl (ih m' hm n' (i + 1) ys' s₀' s7 σ7 H7 hn' w7 hG' (T.keep _ _ _ st5 fun b hb o e => (at7 b hb o e).1) fun b hb => ?_)
          obtain ⟨o, e, _⟩ := T.obj _ _ st5 b hb
          exact (at7 b hb o e).2
        cases f with
        | next => obtain ⟨σ7, H7, I7, n7⟩ := hs; exact again I7 n7
        | cont => obtain ⟨σ7, H7, I7, n7⟩ := hs; exact again I7 n7
        | brk =>
          obtain ⟨σ7, H7, I7, q7⟩ := hs
          exact seg_leaf (.ok .next) (k.ok n' ys' s₀' s7 .next hn' ⟨σ7, H7, unp I7, q7⟩)
        | ret v =>
          obtain ⟨x7, σ7, H7, I7, rv7, q7⟩ := hs
          exact seg_leaf (.ok (.ret v)) (k.ok n' ys' s₀' s7 (.ret v) hn' ⟨x7, σ7, H7, unp I7, rv7, q7⟩)
  exact loop m0 n 0 ys s₀ s2 σ H2 hn w0 ⟨acc, cc, r, I2⟩ st2 fun b hb => (f2 b hb).1
end
end L2

set_option Elab.async false
set_option linter.all false
set_option maxRecDepth 100000
namespace Z
open PySem L2
/-- a def of the module that may be called, with its promise -/
structure Cal (P : Program) (w : World) (K : PySem.W.Frag) (mg : Str → Option Value) (base : Heap) (CX : CXT) (x : Str) (k : Nat) (sp : Sp) : Prop where
  ex : ∃ (f : Addr) (fd : FuncData) (ps : List Str), mg x = some (.ref f) ∧ PySem.W.keepIn K (.ref f) = true ∧ Binds K fd ps [] ∧ FnOk P w K mg base CX k f fd ps sp
section
variable {X : Cx} {CX : CXT} {x : Str} {k j : Nat} {sp : Sp} {E : XK} {e : Expr} {es : List Expr} {t : TA} {p pos : Pos}
theorem pe_calX (c : Cal X.prog X.w X.K X.mg X.base CX x k sp) (hr : Room k X.A) (hg : Gl X x) (hx : Passes CX X E) (ha : PA X (e :: es) t)
    (hdb : (x == ("__debug__" : Str)) = false := by decide) (he : starEach (e :: es) X.env = (false, eval e X.env) :: starEach es X.env := by rfl) (hpl : (backTo pos (starEach es X.env)).any (·.1) = false := by rfl) :
    PE X (.Call (.Name x p) (e :: es) [] pos) (tCall sp [] E t) := by
  obtain ⟨f, fd, ps, hm, hk, hb, F⟩ := c.ex
  exact pe_call F hr hg hm hk hb .nil hx ha hdb he hpl
theorem pe_cal (c : Cal X.prog X.w X.K X.mg X.base CX0 x k sp) (hr : Room k X.A) (hg : Gl X x) (ha : PA X (e :: es) t)
    (hdb : (x == ("__debug__" : Str)) = false := by decide) (he : starEach (e :: es) X.env = (false, eval e X.env) :: starEach es X.env := by rfl) (hpl : (backTo pos (starEach es X.env)).any (·.1) = false := by rfl) :
    PE X (.Call (.Name x p) (e :: es) [] pos) (tCall sp [] E0 t) := pe_calX c hr hg pass0 ha hdb he hpl
end
theorem iteB {b : Bool} {A B : Prop} (h1 : b = true → A) (h2 : b = false → B) : if b = true then A else B := by
  cases b with
  | true => exact iteT (h1 rfl)
  | false => exact iteF (h2 rfl)
theorem dec_i {i j : Int} : decide (V.int i = V.int j) = decide (i = j) := by
  rw [Bool.eq_iff_iff]
  simp
theorem dec_i_t {i j : Int} (h : decide (V.int i = V.int j) = true) : i = j := by
  rw [dec_i] at h
  exact of_decide_eq_true h
theorem dec_i_f {i j : Int} (h : decide (V.int i = V.int j) = false) : i ≠ j := by
  rw [dec_i] at h
  exact of_decide_eq_false h
/-- the names of built-ins that the law's text reads -/
structure Bl (mg : Str → Option Value) : Prop where
  n_len : mg "len" = none
  n_int : mg "int" = none
  n_abs : mg "abs" = none
  n_range : mg "range" = none
  n_enumerate : mg "enumerate" = none
  n_list : mg "list" = none
  n_tuple : mg "tuple" = none
  n_isinstance : mg "isinstance" = none
  n_bool : mg "bool" = none
  n_str : mg "str" = none
  n_any : mg "any" = none
  n_repr : mg "repr" = none
/-- all but the object at h as it was -/
def Keep (h : Addr) (H H' : Hp) : Prop := ∀ b o, H b = some o → b ≠ h → H' b = some o
theorem Keep.refl (h : Addr) (H : Hp) : Keep h H H := fun _ _ e _ => e
theorem Keep.trans {h : Addr} {H H1 H2 : Hp} (a : Keep h H H1) (b : Keep h H1 H2) : Keep h H H2 := fun c o e n => b c o (a c o e n) n
theorem Keep.of_same {h : Addr} {H H' : Hp} (s : Same H H') : Keep h H H' := fun b o e _ => s b o e
theorem Keep.upd {h : Addr} {H : Hp} {o : HO} : Keep h H (upd H h o) := fun b u e n => by rw [upd_ne n]; exact e
theorem same_new {H : Hp} {p : Addr} {o : HO} (n : H p = none) : Same H (upd H p o) := fun b u e => by rw [upd_ne (ne_of_none e n)]; exact e
theorem Keep.new {h : Addr} {H : Hp} {p : Addr} {o : HO} (n : H p = none) : Keep h H (L2.upd H p o) := .of_same (same_new n)
/-- the draws' hand, at h -/
structure Hnd (H : Hp) (h a : Addr) : Prop where
  ex : ∃ (cells : List Int) (i : Nat) (r t : Int), H h = some (.lst [.ref a, .int (i : Nat), .int r, .int t]) ∧ H a = some (.lst (cells.map V.int)) ∧ a ≠ h ∧ cells.length ≤ 63 ∧ (∀ c ∈ cells, 0 ≤ c) ∧ i ≤ cells.length ∧ 0 ≤ r ∧ 0 ≤ t ∧ t < 2147483549
theorem Hnd.same {H H' : Hp} {h a : Addr} (hn : Hnd H h a) (s : Same H H') : Hnd H' h a := by
  obtain ⟨cs, i, r, t, e1, e2, q⟩ := hn.ex
  exact ⟨cs, i, r, t, s _ _ e1, s _ _ e2, q⟩
theorem Hnd.new {H : Hp} {h a p : Addr} {o : HO} (hn : Hnd H h a) (n : H p = none) : Hnd (upd H p o) h a := hn.same (same_new n)
theorem Hnd.there {H : Hp} {h a : Addr} (hn : Hnd H h a) : ∃ o, H h = some o := by
  obtain ⟨cs, i, r, t, e1, _⟩ := hn.ex
  exact ⟨_, e1⟩
theorem Hnd.ne {H : Hp} {h a p : Addr} (hn : Hnd H h a) (n : H p = none) : p ≠ h := by
  obtain ⟨o, e⟩ := hn.there
  exact (ne_of_none e n).symm
theorem Hnd.nea {H : Hp} {h a p : Addr} (hn : Hnd H h a) (n : H p = none) : p ≠ a := by
  obtain ⟨cs, i, r, t, e1, e2, _⟩ := hn.ex
  exact (ne_of_none e2 n).symm
theorem Hnd.off {H : Hp} {h a p : Addr} {o : HO} (hn : Hnd H h a) (np : p ≠ h) (na : p ≠ a) : Hnd (upd H p o) h a := by
  obtain ⟨cs, i, r, t, e1, e2, q⟩ := hn.ex
  exact ⟨cs, i, r, t, by rw [upd_ne np.symm]; exact e1, by rw [upd_ne na.symm]; exact e2, q⟩
/-! ### promises of the drawing -/
def spMix : Sp := fun vs H Q _ => ∃ a b : Int, vs = [.int a, .int b] ∧ 0 ≤ a ∧ a < 2147483648 ∧ 0 ≤ b ∧ b < 2147483648 ∧ ∀ m : Int, 0 ≤ m → Q (.int m) H
def spDraw : Sp := fun vs H Q _ => ∃ (h a : Addr) (m : Int), vs = [.ref h, .int m] ∧ Hnd H h a ∧ 1 ≤ m ∧ m < 1073741824 ∧
  ∀ (d : Int) (H' : Hp), 0 ≤ d → d < m → Keep h H H' → Hnd H' h a → (∀ b, H b = none → H' b = none) → Q (.int d) H'
end Z

set_option Elab.async false
set_option linter.all false
set_option maxRecDepth 100000
namespace PySem
set_option maxHeartbeats 1200000 in
/-- enumerate(v) of whatever begins: its two new cells -/
theorem enu_meets {v : Value} {o : Obj} {G : Heap → Prop} (B : Begins v o G) : Meets (Builtin.«enumerate.__new__» ⟨[.type "enumerate", v], []⟩)
    (fun _ R s => G s.heap ∧ R (.ok (.ret (.ref (s.heap.push o).objs.size)))
      { s with heap := (s.heap.push o).push { cls := .type "enumerate", data := .fields #[.none, .bool false, .ref s.heap.objs.size, rawInt 0, .none, .none] } }) :=
  .of_wp fun prog w A R s0 hg => by
    obtain ⟨hp, gs, dr, tk, os⟩ := s0
    obtain ⟨g1, hR⟩ := hg
    have hsub := sub_enumerate
    have go : ∀ {A' : Around} {E : Value → Shared → Prop} {Q : Value → Shared → Prop}, Q (.ref hp.objs.size) ⟨hp.push o, gs, dr, tk, os⟩ →
        wpAny (model prog w) A' (pyIter v) Q E ⟨hp, gs, dr, tk, os⟩ := fun q => B.iter prog w _ _ ⟨hp, gs, dr, tk, os⟩ _ g1 q
    wp_walk using go
    refine wpAny_stack_any fun st => wpAny_pure ?_
    split
    · rename_i c _ _ _ _ _
      cases (c == Value.type "enumerate") <;> (wp_walk using go; exact ⟨_, rfl, hR⟩)
    · wp_walk using go
      exact ⟨_, rfl, hR⟩
theorem enu_call {prog : Program} {w : World} {A : Around} {E : Value → Shared → Prop} {s : Shared} {v : Value} {o : Obj} {G : Heap → Prop} {Q : Value → Shared → Prop} (B : Begins v o G) (g1 : G s.heap)
    (k : ∀ h2, IsEnum h2 (s.heap.objs.size + 1) s.heap.objs.size 0 .none → h2.get? s.heap.objs.size = some o → (∀ b u, s.heap.get? b = some u → h2.get? b = some u) → Q (.ref (s.heap.objs.size + 1)) { s with heap := h2 }) :
    wpAny (model prog w) A (call (.type "enumerate") [v]) Q E s := by
  have sz1 : (s.heap.push o).objs.size = s.heap.objs.size + 1 := Heap.size_push ..
  refine callType_new F.called_enumerate (by decide) (F.typeCall_enumerate_1 _) (F.newCall_enumerate_1 _) (fun obj => F.args_object_init_2 obj _) F.entry_enumerate_new (enu_meets B) ⟨g1, ?_⟩
  show _ ∧ _
  rw [sz1]
  have en : IsEnum ((s.heap.push o).push { cls := .type "enumerate", data := .fields #[.none, .bool false, .ref s.heap.objs.size, rawInt 0, .none, .none] }) (s.heap.objs.size + 1) s.heap.objs.size 0 .none := by
    have z := Heap.get?_push_size (s.heap.push o) (o := { cls := .type "enumerate", data := .fields #[.none, .bool false, .ref s.heap.objs.size, rawInt 0, .none, .none] }) rfl
    rw [sz1] at z
    exact z
  refine ⟨⟨_, en, rfl⟩, k _ en ?_ ?_⟩
  · exact Heap.get?_push_of_some _ (Heap.get?_push_size _ B.free)
  · exact fun b u e => Heap.get?_push_of_some _ (Heap.get?_push_of_some _ e)
end PySem

namespace Z
open PySem L2 PySem.Spec PyProof.Rows
/-- enumerate of the tuple at a: each item in a new pair -/
def ItU (K : PySem.W.Frag) (a : Addr) : It where
  go i H := ∃ (xs : List V) (x : V), SqT K H a xs ∧ xs[i]? = some x
  yld i H v H' := ∃ T x, v = .ref T ∧ H T = none ∧ H' = upd H T (.tup [.int (i : Nat), x]) ∧ ∀ xs, SqT K H a xs → xs[i]? = some x
  stop i H := ∃ xs : List V, SqT K H a xs ∧ xs.length = i
theorem turn_U {P : Program} {w : World} {K : PySem.W.Frag} {elts : List Expr} {kk : Nat} {tpos : Pos} (a e it : Addr) :
    Turn P w K (.Tuple elts kk tpos) (ItU K a) [e, it] e (fun i h => (∃ old, IsEnum h e it ((i : Nat) : Int) old) ∧ h.IsTupleIter it a i ∧ e ≠ it ∧ a ≠ it) where
  mem := List.mem_cons_self
  obj := by
    intro i h st b hb
    obtain ⟨⟨old, he⟩, ⟨o, ho, hc, hd⟩, _⟩ := st
    rcases List.mem_cons.mp hb with rfl | hb
    · exact ⟨_, he, fun v q => nomatch q⟩
    · obtain rfl := List.mem_singleton.mp hb
      exact ⟨o, ho, fun v q => by rw [hd] at q; cases q⟩
  keep := by
    intro i h h' st kp
    obtain ⟨⟨old, he⟩, hi, hne, hna⟩ := st
    exact ⟨⟨old, kp e (by simp) _ he⟩, hi.at fun o q => kp it (by simp) o q, hne, hna⟩
  item := by
    intro X hP hw hK hc i pins s σ H E I hf st hg
    subst hP hw hK
    obtain ⟨⟨old, he⟩, hit, hne, hna⟩ := st
    obtain ⟨xs, x, hq, hx⟩ := hg
    obtain ⟨its, rv, tp, _⟩ := I.tuple hq
    obtain ⟨u, hu, ru⟩ := rv.get hx
    have tp' : s.heap.IsTuple a its.toArray := tp
    have hel : e < s.heap.objs.size := Heap.lt_size he
    have hil : it < s.heap.objs.size := by
      obtain ⟨_, q, _⟩ := hit
      exact Heap.lt_size q
    have hilt : i < its.toArray.size := by
      have z := (List.getElem?_eq_some_iff.mp hu).1
      simpa using z
    have hal : a ≠ e := fun z => by
      obtain ⟨o, q1, q2, _⟩ := tp'
      rw [z, he] at q1
      cases q1
      have q3 : Value.type "enumerate" = Value.type "tuple" := q2
      exact absurd (Value.type.inj q3) (by decide)
    refine wpAny_pyNext_enum_itemD (Draws.tuple (A := X.A.in1) (show X.A.in1.handled = none from I.ok.hd hc) it a hna its.toArray) he ⟨hit, tp'⟩ hilt hne (by simp [hne, Ne.symm hal]) fun y h' tk hy ho hst hT hsz hk => ?_
    obtain ⟨hit', _⟩ := hst
    have ey : y = u := by
      have z : its[i]? = some y := by simpa using hy
      rw [hu] at z
      exact (Option.some.inj z).symm
    subst ey
    refine ⟨_, rfl, wpAny_letOwnedTupleGo_enum (s := { s with heap := h', toks := tk + 1 }) ho fun h2 he2 sb => ?_⟩
    have hT2 : h2.get? s.heap.objs.size = some { cls := .type "tuple", data := .seq #[.int i tk, y] } := (sb.2 _ (Nat.ne_of_gt hel)).trans hT
    have new : ObjOk X.prog X.w (upd H s.heap.objs.size (.tup [.int (i : Nat), x])) h2 s.heap.objs.size (.tup [.int (i : Nat), x]) := by
      refine ⟨by show 2 ≤ sizeLine; decide, [.int i tk, y], ?_, ⟨_, hT2, rfl, _, rfl⟩⟩
      exact .cons ⟨_, rfl⟩ (.cons ru .nil)
    have I1 : Inv X pins σ (upd H s.heap.objs.size (.tup [.int (i : Nat), x])) { s with heap := h2, toks := tk + 1 } := by
      refine I.turnedNew (ch := [e, it]) (fun b ob hb q => ?_) hf (Nat.le_refl _) new
      have b1 : b ≠ e := fun z => hb (by simp [z])
      have b2 : b ≠ it := fun z => hb (by simp [z])
      exact (sb.2 b b1).trans (hk b ob b1 b2 q)
    refine ⟨.ref s.heap.objs.size, _, I1, rfl, ⟨_, x, rfl, I.hok.fresh (Nat.le_refl _), rfl, fun ys hy => ?_⟩, ⟨⟨y, ?_⟩, hit'.at fun o q => (sb.2 it (Ne.symm hne)).trans q, hne, hna⟩, fun b hb => ?_⟩
    · rw [I.tuple_inj hy hq]
      exact hx
    · have e1 : ((i + 1 : Nat) : Int) = (i : Int) + 1 := by omega
      rw [e1]
      exact he2
    · have hb' : b < s.heap.objs.size := by
        rcases List.mem_cons.mp hb with z | z
        · rw [z]
          exact hel
        · rw [List.mem_singleton.mp z]
          exact hil
      rw [upd_ne (Nat.ne_of_lt hb')]
      exact (hf b hb).1
  done := by
    intro X hP hw hK hc i pins s σ H E I hf st hg
    subst hP hw hK
    obtain ⟨⟨old, he⟩, hit, hne, hna⟩ := st
    obtain ⟨xs, hq, hx⟩ := hg
    obtain ⟨its, rv, tp, _⟩ := I.tuple hq
    obtain ⟨f0, f1, f2, f3, f4, f5⟩ := hf it (by simp)
    have hl : its.toArray.size = i := by
      rw [List.size_toArray, ← rv.length]
      exact hx
    refine wpAny_pyNext_enum_endD (Draws.tuple (A := X.A.in1) (show X.A.in1.handled = none from I.ok.hd hc) it a hna its.toArray) he ⟨?_, tp⟩ fun h' eb => ⟨rfl, I.turned (t' := s.toks) (fun b o hb q => eb b o hb q) f0 f1 f3 f4 f5⟩
    rw [hl]
    exact hit
  self := fun A i s Q E st q => by
    obtain ⟨⟨_, he⟩, _⟩ := st
    exact wpAny_pyIter_enum he q
def iEnumT (K : PySem.W.Frag) (ta : TA) : TI := fun σ H R => ta σ H fun vs H1 => ∃ (a : Addr) (xs : List V), vs = [.ref a] ∧ SqT K H1 a xs ∧ R (ItU K a) H1
set_option maxHeartbeats 2100000 in
theorem pi_enumT {X : Cx} {e : Expr} {ta : TA} {p pos tpos : Pos} {elts : List Expr} {kk : Nat} (hg : Gl X "enumerate") (hm : X.mg "enumerate" = none) (ha : PA X [e] ta) (hs : starEach [e] X.env = [(false, eval e X.env)] := by rfl) :
    PI X (.Tuple elts kk tpos) (.Call (.Name "enumerate" p) [e] [] pos) (iEnumT X.K ta) := by
  constructor
  intro pins s σ H R I hw
  refine Call_ (ld_blt I hg hm boot_enumerate (PyProof.Rows.callWith_type1 (thn (ha.run pos pins s σ H _ I hw) fun us s1 ⟨vs, H1, I1, r1, q1⟩ => ?_) hs rfl))
  obtain ⟨a, xs, rfl, hq, q⟩ := q1
  cases r1 with
  | cons r rr =>
    cases rr
    cases r
    obtain ⟨its, rv, tp, _⟩ := I1.tuple hq
    obtain ⟨ot, q1, q2, q3⟩ := id tp
    refine enu_call (begins_tuple a its.toArray) (show s1.heap.IsTuple a its.toArray from tp) fun h2 he hit hk => wpAny_pyIter_enum he ?_
    have I2 : Inv X pins σ H1 { s1 with heap := h2 } := I1.kept (t' := s1.toks) hk
    have hna : a ≠ s1.heap.objs.size := Nat.ne_of_lt (Heap.lt_size q1)
    refine ⟨s1.heap.objs.size + 1, [s1.heap.objs.size + 1, s1.heap.objs.size], _, _, H1, rfl, I2, turn_U a (s1.heap.objs.size + 1) s1.heap.objs.size, ⟨⟨.none, he⟩, ⟨_, hit, rfl, rfl⟩, Nat.succ_ne_self _, hna⟩, fun b hb => ?_, q⟩
    have hle : s1.heap.objs.size ≤ b := by
      rcases List.mem_cons.mp hb with z | z
      · rw [z]
        exact Nat.le_succ _
      · rw [List.mem_singleton.mp z]
        exact Nat.le_refl _
    exact I1.fpOk hle (I1.hok.fresh hle)
/-- a loop over any walk: an invariant by turns -/
theorem walk_enumT {K : PySem.W.Frag} {a : Addr} {xs : List V} : Walk (ItU K a) xs.length (fun H => SqT K H a xs) (YPair (fun i => some (.int (i : Nat))) (fun i => xs[i]?)) where
  goes := by
    intro i H hi hg
    exact ⟨xs, xs[i], hg, by simp [hi]⟩
  stops := by
    intro H hg
    exact ⟨xs, hg, rfl⟩
  yields := by
    intro i H v H' hi hg hy
    obtain ⟨T, x, ev, hT, eH, hx⟩ := hy
    exact ⟨T, _, x, ev, hT, eH, rfl, hx xs hg⟩
/-- enumerate of a list or of a tuple -/
structure EnA (K : PySem.W.Frag) (ta : TA) (σ : L2.St) (H : Hp) (R : It → Hp → Prop) : Prop where
  or : iEnum K ta σ H R ∨ iEnumT K ta σ H R
theorem pi_enumA {X : Cx} {e : Expr} {ta : TA} {p pos tpos : Pos} {elts : List Expr} {kk : Nat} (hg : Gl X "enumerate") (hm : X.mg "enumerate" = none) (ha : PA X [e] ta) (hs : starEach [e] X.env = [(false, eval e X.env)] := by rfl) :
    PI X (.Tuple elts kk tpos) (.Call (.Name "enumerate" p) [e] [] pos) (EnA X.K ta) :=
  ⟨fun pins s σ H R I h => h.or.elim (fun q => (pi_enum hg hm ha hs).run pins s σ H R I q) (fun q => (pi_enumT hg hm ha hs).run pins s σ H R I q)⟩
/-- what a for asks of the walk J -/
def forR (g : TG) (tb : TS) (D : Ends) (σ : L2.St) (J : It) (H1 : Hp) : Prop := ∃ W : Nat → Nat → L2.St → Hp → Prop, (∃ m, W 0 m σ H1) ∧ ∀ i m σ H, W i m σ H →
  (J.stop i H ∧ D.nx σ H) ∨ (J.go i H ∧ ∃ N : L2.St → Hp → Prop, (∀ σ' H', N σ' H' → ∃ m', m' < m ∧ W (i + 1) m' σ' H') ∧ ∀ x H', J.yld i H x H' → g x σ H' fun σ2 H2 => tb { D with nx := N, ct := N, bk := D.nx } σ2 H2)
theorem for_enumA {K : PySem.W.Frag} {i0 : Nat} {a : Addr} {xs : List V} {g : TG} {tb : TS} {D : Ends} {σ : L2.St} {H : Hp} (hq : SqL K H a xs ∨ SqT K H a xs) (Pv : Nat → L2.St → Hp → Prop) (h0 : Pv 0 σ H)
    (hG : ∀ i σ H', Pv i σ H' → Same H H')
    (hs : ∀ i x T σ H', xs[i]? = some x → Pv i σ H' → H' T = none → g (.ref T) σ (upd H' T (.tup [.int (i : Nat), x])) fun σ2 H2 => tb { D with nx := Pv (i + 1), ct := Pv (i + 1), bk := D.nx } σ2 H2)
    (hd : ∀ σ H', Pv xs.length σ H' → D.nx σ H') :
    σ[i0]? = some (some (V.ref a)) → EnA K (tCons (tVar i0) tNil) σ H (fun J H1 => forR g tb D σ J H1) := by
  intro e0
  refine ⟨?_⟩
  rcases hq with hq | hq
  · refine .inl ⟨_, e0, a, xs, rfl, hq, for_it (walk_enum (K := K) (a := a) (xs := xs)) Pv h0 (fun i σ H' _ p => (hG i σ H' p).seq hq) (fun i v σ H1 H2 hi p y => ?_) hd⟩
    obtain ⟨T, x, y, rfl, hT, rfl, e1, e2⟩ := y
    cases e1
    exact hs i y T σ H1 e2 p hT
  · refine .inr ⟨_, e0, a, xs, rfl, hq, for_it (walk_enumT (K := K) (a := a) (xs := xs)) Pv h0 (fun i σ H' _ p => by
      rcases hq with (h | ⟨o, h⟩) | h
      · exact .inl (.inl (hG i σ H' p _ _ h))
      · exact .inl (.inr ⟨o, hG i σ H' p _ _ h⟩)
      · exact .inr h) (fun i v σ H1 H2 hi p y => ?_) hd⟩
    obtain ⟨T, x, y, rfl, hT, rfl, e1, e2⟩ := y
    cases e1
    exact hs i y T σ H1 e2 p hT
end Z

set_option Elab.async false
set_option linter.all false
set_option maxRecDepth 100000
namespace Z
open PySem L2
/-! ### data -/
mutual
theorem Dp.same {K : PySem.W.Frag} {H H' : Hp} (s : Same H H') : ∀ (d : PyData) (v : V), Dp K H v d → Dp K H' v d
  | .none, _, h => by cases h; exact .non
  | .bool b, _, h => by cases h; exact .bl b
  | .int i, _, h => by cases h; exact .int i
  | .str x, _, h => by cases h; exact .str x
  | .list ds, _, h => by
    cases h with
    | lst a b => exact .lst (s.seq a) (DpAll.same s ds _ b)
  | .tuple ds, _, h => by
    cases h with
    | tup a b => exact .tup (by
        rcases a with (a | ⟨o, a⟩) | a
        · exact .inl (.inl (s _ _ a))
        · exact .inl (.inr ⟨o, s _ _ a⟩)
        · exact .inr a) (DpAll.same s ds _ b)
  | .dict _, _, h => by cases h
theorem DpAll.same {K : PySem.W.Frag} {H H' : Hp} (s : Same H H') : ∀ (ds : List PyData) (vs : List V), DpAll K H vs ds → DpAll K H' vs ds
  | [], _, h => by cases h; exact .nil
  | d :: ds, _, h => by
    cases h with
    | cons a b => exact .cons (Dp.same s d _ a) (DpAll.same s ds _ b)
end
theorem Same.sqT {K : PySem.W.Frag} {H H' : Hp} {a : Addr} {xs : List V} (e : Same H H') (h : SqT K H a xs) : SqT K H' a xs := by
  rcases h with (h | ⟨o, h⟩) | h
  · exact .inl (.inl (e _ _ h))
  · exact .inl (.inr ⟨o, e _ _ h⟩)
  · exact .inr h
theorem DpAll.len {K : PySem.W.Frag} {H : Hp} : ∀ {ds : List PyData} {vs : List V}, DpAll K H vs ds → vs.length = ds.length
  | [], _, h => by cases h; rfl
  | d :: ds, _, h => by
    cases h with
    | cons a b => simp [DpAll.len b]
theorem DpAll.get {K : PySem.W.Frag} {H : Hp} : ∀ {ds : List PyData} {vs : List V} {i : Nat} {v : V}, DpAll K H vs ds → vs[i]? = some v → ∃ d, ds[i]? = some d ∧ Dp K H v d
  | [], _, i, v, h, e => by cases h; simp at e
  | d :: ds, _, 0, v, h, e => by
    cases h with
    | cons a b =>
      simp at e
      subst e
      exact ⟨d, rfl, a⟩
  | d :: ds, _, i + 1, v, h, e => by
    cases h with
    | cons a b =>
      obtain ⟨d', h1, h2⟩ := DpAll.get (i := i) (v := v) b (by simpa using e)
      exact ⟨d', by simpa using h1, h2⟩
theorem DpAll.get' {K : PySem.W.Frag} {H : Hp} : ∀ {ds : List PyData} {vs : List V} {i : Nat} {d : PyData}, DpAll K H vs ds → ds[i]? = some d → ∃ v, vs[i]? = some v ∧ Dp K H v d
  | [], _, i, v, h, e => by simp at e
  | d :: ds, _, 0, v, h, e => by
    cases h with
    | cons a b =>
      simp at e
      subst e
      exact ⟨_, rfl, a⟩
  | d :: ds, _, i + 1, v, h, e => by
    cases h with
    | cons a b =>
      obtain ⟨d', h1, h2⟩ := DpAll.get' (i := i) (d := v) b (by simpa using e)
      exact ⟨d', by simpa using h1, h2⟩
theorem DpAll.app {K : PySem.W.Frag} {H : Hp} : ∀ {ds es : List PyData} {vs ws : List V}, DpAll K H vs ds → DpAll K H ws es → DpAll K H (vs ++ ws) (ds ++ es)
  | [], _, _, _, h, g => by cases h; exact g
  | d :: ds, _, _, _, h, g => by
    cases h with
    | cons a b => exact .cons a (DpAll.app b g)
theorem DpAll.take {K : PySem.W.Frag} {H : Hp} : ∀ {ds : List PyData} {vs : List V} (n : Nat), DpAll K H vs ds → DpAll K H (vs.take n) (ds.take n)
  | _, _, 0, _ => by simpa using .nil
  | [], _, n + 1, h => by cases h; exact .nil
  | d :: ds, _, n + 1, h => by
    cases h with
    | cons a b => exact .cons a (DpAll.take n b)
theorem DpAll.drop {K : PySem.W.Frag} {H : Hp} : ∀ {ds : List PyData} {vs : List V} (n : Nat), DpAll K H vs ds → DpAll K H (vs.drop n) (ds.drop n)
  | _, _, 0, h => h
  | [], _, n + 1, h => by cases h; exact .nil
  | d :: ds, _, n + 1, h => by
    cases h with
    | cons a b => exact DpAll.drop n b
/-! ### kinds of data -/
def tyN : PyData → String
  | .none => "NoneType" | .bool _ => "bool" | .int _ => "int" | .str _ => "str" | .list _ => "list" | .tuple _ => "tuple" | .dict _ => "dict"
theorem ty_of_dp {K : PySem.W.Frag} {H : Hp} {d : PyData} {v : V} (h : Dp K H v d) : TyX K H v (.type (tyN d)) := by
  cases h with
  | non => exact .base .non
  | bl b => exact .base (.bl b)
  | int i => exact .base (.int i)
  | str x => exact .base (.str x)
  | lst a _ =>
    rcases a with (a | ⟨o, a⟩) | ⟨o, its, n, k, c, _⟩
    · exact .base (.lst a)
    · exact .base (.frz a)
    · exact .kList k c
  | tup a _ =>
    rcases a with (a | ⟨o, a⟩) | ⟨o, its, n, k, c, _⟩
    · exact .base (.tup a)
    · exact .fTuple a
    · exact .kTuple k c
def isB : PyData → Bool | .bool _ => true | _ => false
def isI : PyData → Bool | .bool _ => true | .int _ => true | _ => false
def isS : PyData → Bool | .str _ => true | _ => false
def isT : PyData → Bool | .tuple _ => true | _ => false
def isL : PyData → Bool | .list _ => true | _ => false
theorem kb_bool (d : PyData) : kitB (tyN d) "bool" = some (isB d) :=
  match d with
  | .none => (by decide +kernel : kitB "NoneType" "bool" = some false)
  | .bool _ => (by decide +kernel : kitB "bool" "bool" = some true)
  | .int _ => (by decide +kernel : kitB "int" "bool" = some false)
  | .str _ => (by decide +kernel : kitB "str" "bool" = some false)
  | .list _ => (by decide +kernel : kitB "list" "bool" = some false)
  | .tuple _ => (by decide +kernel : kitB "tuple" "bool" = some false)
  | .dict _ => (by decide +kernel : kitB "dict" "bool" = some false)
theorem kb_int (d : PyData) : kitB (tyN d) "int" = some (isI d) :=
  match d with
  | .none => (by decide +kernel : kitB "NoneType" "int" = some false)
  | .bool _ => (by decide +kernel : kitB "bool" "int" = some true)
  | .int _ => (by decide +kernel : kitB "int" "int" = some true)
  | .str _ => (by decide +kernel : kitB "str" "int" = some false)
  | .list _ => (by decide +kernel : kitB "list" "int" = some false)
  | .tuple _ => (by decide +kernel : kitB "tuple" "int" = some false)
  | .dict _ => (by decide +kernel : kitB "dict" "int" = some false)
theorem kb_str (d : PyData) : kitB (tyN d) "str" = some (isS d) :=
  match d with
  | .none => (by decide +kernel : kitB "NoneType" "str" = some false)
  | .bool _ => (by decide +kernel : kitB "bool" "str" = some false)
  | .int _ => (by decide +kernel : kitB "int" "str" = some false)
  | .str _ => (by decide +kernel : kitB "str" "str" = some true)
  | .list _ => (by decide +kernel : kitB "list" "str" = some false)
  | .tuple _ => (by decide +kernel : kitB "tuple" "str" = some false)
  | .dict _ => (by decide +kernel : kitB "dict" "str" = some false)
theorem kb_tuple (d : PyData) : kitB (tyN d) "tuple" = some (isT d) :=
  match d with
  | .none => (by decide +kernel : kitB "NoneType" "tuple" = some false)
  | .bool _ => (by decide +kernel : kitB "bool" "tuple" = some false)
  | .int _ => (by decide +kernel : kitB "int" "tuple" = some false)
  | .str _ => (by decide +kernel : kitB "str" "tuple" = some false)
  | .list _ => (by decide +kernel : kitB "list" "tuple" = some false)
  | .tuple _ => (by decide +kernel : kitB "tuple" "tuple" = some true)
  | .dict _ => (by decide +kernel : kitB "dict" "tuple" = some false)
theorem kb_list (d : PyData) : kitB (tyN d) "list" = some (isL d) :=
  match d with
  | .none => (by decide +kernel : kitB "NoneType" "list" = some false)
  | .bool _ => (by decide +kernel : kitB "bool" "list" = some false)
  | .int _ => (by decide +kernel : kitB "int" "list" = some false)
  | .str _ => (by decide +kernel : kitB "str" "list" = some false)
  | .list _ => (by decide +kernel : kitB "list" "list" = some true)
  | .tuple _ => (by decide +kernel : kitB "tuple" "list" = some false)
  | .dict _ => (by decide +kernel : kitB "dict" "list" = some false)
theorem ka_seq {K : PySem.W.Frag} {nm : String} {a b : Bool} (h1 : kitB nm "list" = some a) (h2 : kitB nm "tuple" = some b) : PySem.W.kitAny K (.type nm) [.type "list", .type "tuple"] = some (a || b) := by
  refine kitAny_cons (kit_ty h1) (fun e => ?_) (fun e => by rw [e]; rfl)
  refine kitAny_cons (kit_ty h2) (fun e2 => ?_) (fun e2 => by rw [e2]; simp)
  rw [e, e2]
  exact kitAny_nil
/-- a whole number within bounds -/
def whole (d : PyData) (lo hi : Option Int) : Bool :=
  match d with
  | .int i => (match lo with | some l => decide (l ≤ i) | none => true) && (match hi with | some u => decide (i ≤ u) | none => true)
  | _ => false
def oV : Option Int → V | some i => .int i | none => .non
def spWhole (K : PySem.W.Frag) : Sp := fun vs H Q _ => ∃ (x : V) (d : PyData) (lo hi : Option Int), vs = [x, oV lo, oV hi] ∧ Dp K H x d ∧ Q (.bl (whole d lo hi)) H
/-- what is_sequence is asked: data, or a dict -/
inductive AnyD (K : PySem.W.Frag) (H : Hp) : V → PyData → Prop
  | dp {v : V} {d : PyData} : Dp K H v d → AnyD K H v d
  | dk {a : Addr} : H a = some (.dK []) → AnyD K H (.ref a) (.dict [])
theorem ty_of_any {K : PySem.W.Frag} {H : Hp} {d : PyData} {v : V} (h : AnyD K H v d) : TyX K H v (.type (tyN d)) := by
  cases h with
  | dp h => exact ty_of_dp h
  | dk h => exact .base (.dK h)
theorem AnyD.same {K : PySem.W.Frag} {H H' : Hp} {d : PyData} {v : V} (s : Same H H') (h : AnyD K H v d) : AnyD K H' v d := by
  cases h with
  | dp h => exact .dp (Dp.same s _ _ h)
  | dk h => exact .dk (s _ _ h)
def isSeq (d : PyData) : Bool := isL d || isT d
def spSeq (K : PySem.W.Frag) : Sp := fun vs H Q _ => ∃ (x : V) (d : PyData), vs = [x] ∧ AnyD K H x d ∧ ∀ H', Same H H' → Q (.bl (isSeq d)) H'
def seqOf : PyData → Option (List PyData) | .list ds => some ds | .tuple ds => some ds | _ => none
def couple (d : PyData) (high : Int) : Bool :=
  match seqOf d with
  | some [a, b] => whole a (some 0) (some high) && whole b (some 0) (some high)
  | _ => false
def spCouple (K : PySem.W.Frag) : Sp := fun vs H Q _ => ∃ (x : V) (d : PyData) (hi : Int), vs = [x, .int hi] ∧ Dp K H x d ∧ ∀ H', Same H H' → Q (.bl (couple d hi)) H'
theorem seq_dp {K : PySem.W.Frag} {H : Hp} {d : PyData} {v : V} (h : Dp K H v d) (hs : isSeq d = true) : ∃ (p : Addr) (ys : List V) (ds : List PyData), v = .ref p ∧ (SqL K H p ys ∨ SqT K H p ys) ∧ DpAll K H ys ds ∧ seqOf d = some ds := by
  cases h with
  | lst a b => exact ⟨_, _, _, rfl, .inl a, b, rfl⟩
  | tup a b => exact ⟨_, _, _, rfl, .inr a, b, rfl⟩
  | _ => cases hs
theorem seq_not {d : PyData} (hs : isSeq d = false) : seqOf d = none := by
  cases d with
  | list _ => cases hs
  | tuple _ => cases hs
  | _ => rfl
theorem couple_no {d : PyData} {hi : Int} (hs : isSeq d = false) : couple d hi = false := by
  unfold couple
  rw [seq_not hs]
theorem couple_len {d : PyData} {hi : Int} {ds : List PyData} (hs : seqOf d = some ds) (hl : ds.length ≠ 2) : couple d hi = false := by
  unfold couple
  rw [hs]
  match ds, hl with
  | [], _ => rfl
  | [_], _ => rfl
  | [_, _], h => exact absurd rfl h
  | _ :: _ :: _ :: _, _ => rfl
theorem couple_two {d a b : PyData} {hi : Int} (hs : seqOf d = some [a, b]) : couple d hi = (whole a (some 0) (some hi) && whole b (some 0) (some hi)) := by
  unfold couple
  rw [hs]
theorem two_of {α : Type} {l : List α} (h : l.length = 2) : ∃ a b, l = [a, b] := by
  match l, h with
  | [a, b], _ => exact ⟨a, b, rfl⟩
end Z

set_option Elab.async false
set_option linter.all false
set_option maxRecDepth 100000
namespace Z
open PySem L2
theorem same_mut {H H' : Hp} {p : Addr} {o : HO} (e : Same H H') (h : H p = none) : Same H (upd H' p o) := fun a u ha => by
  rw [upd_ne (ne_of_none ha h)]
  exact e a u ha
theorem ne_of_none' {H : Hp} {a b : Addr} {o : HO} (h : H a = some o) (h' : H b = none) : b ≠ a := (ne_of_none h h').symm
/-! ### a walk of a list or of a tuple; an unpacking of either -/
structure ItA (K : PySem.W.Frag) (tl : TE) (σ : L2.St) (H : Hp) (R : It → Hp → Prop) : Prop where
  or : iList K tl σ H R ∨ iTup K tl σ H R
theorem pi_seqA {X : Cx} {tg l : Expr} {tl : TE} (hl : PE X l tl) : PI X tg l (ItA X.K tl) :=
  ⟨fun pins s σ H R I h => h.or.elim (fun q => (pi_list hl).run pins s σ H R I q) (fun q => (pi_tup hl).run pins s σ H R I q)⟩
theorem for_seqA {K : PySem.W.Frag} {i0 : Nat} {a : Addr} {xs : List V} {g : TG} {tb : TS} {D : Ends} {σ : L2.St} {H H0 : Hp} (hq : SqL K H0 a xs ∨ SqT K H0 a xs) (Pv : Nat → L2.St → Hp → Prop) (h0 : Pv 0 σ H)
    (hG : ∀ i σ H', Pv i σ H' → Same H0 H')
    (hs : ∀ i x σ H', xs[i]? = some x → Pv i σ H' → g x σ H' fun σ2 H2 => tb { D with nx := Pv (i + 1), ct := Pv (i + 1), bk := D.nx } σ2 H2)
    (hd : ∀ σ H', Pv xs.length σ H' → D.nx σ H') :
    σ[i0]? = some (some (V.ref a)) → ItA K (tVar i0) σ H (fun J H1 => forR g tb D σ J H1) := by
  intro e0
  refine ⟨?_⟩
  rcases hq with hq | hq
  · exact .inl ⟨_, e0, a, rfl, ⟨xs, (hG 0 σ H h0).seq hq⟩, for_it (walk_list (K := K) (a := a) (xs := xs)) Pv h0 (fun i σ H' _ p => (hG i σ H' p).seq hq) (fun i v σ H1 H2 hi p y => by
      obtain ⟨rfl, e⟩ := y
      exact hs i v σ _ e p) hd⟩
  · exact .inr ⟨_, e0, a, rfl, ⟨xs, Same.sqT (hG 0 σ H h0) hq⟩, for_it (walk_tup (K := K) (a := a) (xs := xs)) Pv h0 (fun i σ H' _ p => Same.sqT (hG i σ H' p) hq) (fun i v σ H1 H2 hi p y => by
      obtain ⟨rfl, e⟩ := y
      exact hs i v σ _ e p) hd⟩
structure GuA (K : PySem.W.Frag) (n : Nat) (t : TGs) (v : V) (σ : L2.St) (H : Hp) (Q : L2.St → Hp → Prop) : Prop where
  or : gTup K n t v σ H Q ∨ gUnl K n t v σ H Q
theorem pg_unA {X : Cx} {es : List Expr} {k : Nat} {t : TGs} {n : Nat} {pos : Pos} (hc : X.calm = true) (h : PGs X es t)
    (hn : (assignEach es X.env).length = n := by rfl) (hst : (assignEach es X.env).findIdx? (·.1) = none := by rfl) : PG X (.Tuple es k pos) (GuA X.K n t) :=
  ⟨fun pins s σ H v u Q I r hw => hw.or.elim (fun q => (pg_tup hc h hn hst).run pins s σ H v u Q I r q) (fun q => (pg_unl hc h hn hst).run pins s σ H v u Q I r q)⟩
theorem ixN_nat {n y : Nat} (h : y < n) : ixN n (y : Int) = some y := by
  unfold ixN
  rw [if_pos (by omega), if_pos (by omega)]
  simp
/-! ### a square of truth values -/
def rowV (n : Nat) (f : Nat → Bool) : List V := (List.range n).map fun y => V.bl (f y)
theorem rowV_len {n : Nat} {f : Nat → Bool} : (rowV n f).length = n := by simp [rowV]
theorem rowV_get {n y : Nat} {f : Nat → Bool} (h : y < n) : (rowV n f)[y]? = some (.bl (f y)) := by simp [rowV, h]
theorem rowV_at {n y : Nat} {f : Nat → Bool} (h : y < n) : atI (rowV n f) (y : Int) = some (.bl (f y)) := atI_nat (rowV_get h)
theorem rowV_congr {n : Nat} {f g : Nat → Bool} (h : ∀ y, y < n → f y = g y) : rowV n f = rowV n g := by
  unfold rowV
  refine List.map_congr_left fun y hy => ?_
  rw [h y (List.mem_range.mp hy)]
theorem rowV_set {n y : Nat} {f : Nat → Bool} {b : Bool} (h : y < n) : (rowV n f).set y (.bl b) = rowV n (fun z => if z = y then b else f z) := by
  refine List.ext_getElem? fun z => ?_
  by_cases hz : z < n
  · rw [rowV_get hz]
    by_cases e : z = y
    · subst e
      rw [List.getElem?_set_self (by rw [rowV_len]; exact hz), if_pos rfl]
    · rw [List.getElem?_set_ne (Ne.symm e), rowV_get hz, if_neg e]
  · have h1 : (rowV n f).length ≤ z := by rw [rowV_len]; omega
    have h2 : (rowV n (fun z => if z = y then b else f z)).length ≤ z := by rw [rowV_len]; omega
    rw [List.getElem?_eq_none (by rw [List.length_set]; exact h1), List.getElem?_eq_none h2]
theorem rowV_rep {n : Nat} : (List.replicate n [V.bl false]).flatten = rowV n (fun _ => false) := by
  unfold rowV
  induction n with
  | zero => rfl
  | succ n ih =>
    rw [List.replicate_succ, List.flatten_cons, ih, List.range_succ_eq_map, List.map_cons, List.map_map]
    rfl
theorem rowV_snoc {n : Nat} {f : Nat → Bool} : rowV n f ++ [.bl (f n)] = rowV (n + 1) f := by
  unfold rowV
  rw [List.range_succ, List.map_append]
  rfl
structure MatAt (H : Hp) (p : Addr) (n : Nat) (M : Nat → Nat → Bool) (rs : List Addr) : Prop where
  top : H p = some (.lst (rs.map V.ref))
  len : rs.length = n
  row : ∀ x r, rs[x]? = some r → H r = some (.lst (rowV n (M x)))
  nd : rs.Nodup
  np : p ∉ rs
theorem MatAt.same {H H' : Hp} {p : Addr} {n : Nat} {M : Nat → Nat → Bool} {rs : List Addr} (m : MatAt H p n M rs) (s : Same H H') : MatAt H' p n M rs :=
  ⟨s _ _ m.top, m.len, fun x r e => s _ _ (m.row x r e), m.nd, m.np⟩
theorem MatAt.get {H : Hp} {p : Addr} {n : Nat} {M : Nat → Nat → Bool} {rs : List Addr} (m : MatAt H p n M rs) {x : Nat} (hx : x < n) : ∃ r, rs[x]? = some r ∧ atI (rs.map V.ref) (x : Int) = some (.ref r) ∧ H r = some (.lst (rowV n (M x))) := by
  have hl : x < rs.length := by rw [m.len]; exact hx
  have e : rs[x]? = some rs[x] := by simp [hl]
  exact ⟨rs[x], e, atI_nat (by rw [List.getElem?_map, e]; rfl), m.row x _ e⟩
theorem nodup_ix2 {l : List Addr} (nd : l.Nodup) {i j : Nat} {r : Addr} (h1 : l[i]? = some r) (h2 : l[j]? = some r) : i = j := by
  obtain ⟨a, e1⟩ := List.getElem?_eq_some_iff.mp h1
  obtain ⟨b, e2⟩ := List.getElem?_eq_some_iff.mp h2
  exact (List.getElem_inj nd).mp (e1.trans e2.symm)
theorem MatAt.congr {H : Hp} {p : Addr} {n : Nat} {M M' : Nat → Nat → Bool} {rs : List Addr} (m : MatAt H p n M rs) (h : ∀ x y, x < n → y < n → M x y = M' x y) : MatAt H p n M' rs :=
  ⟨m.top, m.len, fun x r e => by
    have hx : x < n := by
      have := (List.getElem?_eq_some_iff.mp e).1
      rw [m.len] at this
      exact this
    rw [m.row x r e, rowV_congr fun y hy => h x y hx hy], m.nd, m.np⟩
def setM (M : Nat → Nat → Bool) (x y : Nat) (b : Bool) : Nat → Nat → Bool := fun a c => if a = x then (if c = y then b else M x c) else M a c
theorem MatAt.put {H : Hp} {p : Addr} {n : Nat} {M : Nat → Nat → Bool} {rs : List Addr} (m : MatAt H p n M rs) {x y : Nat} {r : Addr} {b : Bool} (hr : rs[x]? = some r) (hy : y < n) : MatAt (upd H r (.lst ((rowV n (M x)).set y (.bl b)))) p n (setM M x y b) rs := by
  have hm : r ∈ rs := List.mem_of_getElem? hr
  refine ⟨?_, m.len, fun a r' e => ?_, m.nd, m.np⟩
  · rw [upd_ne (fun z => m.np (by rw [z]; exact hm))]
    exact m.top
  · by_cases ha : a = x
    · subst ha
      rw [e] at hr
      cases hr
      rw [upd_same, rowV_set hy]
      refine congrArg (fun l => some (HO.lst l)) (rowV_congr fun c _ => ?_)
      unfold setM
      rw [if_pos rfl]
    · have ne : r' ≠ r := fun z => ha (nodup_ix2 m.nd e (z ▸ hr))
      rw [upd_ne ne, m.row a r' e]
      refine congrArg (fun l => some (HO.lst l)) (rowV_congr fun c _ => ?_)
      unfold setM
      rw [if_neg ha]
theorem MatAt.swap {H : Hp} {p D : Addr} {n : Nat} {M : Nat → Nat → Bool} {rs : List Addr} (m : MatAt H p n M rs) {x : Nat} {f : Nat → Bool} (hD : H D = some (.lst (rowV n f))) (nD : D ∉ rs) (np : D ≠ p) :
    MatAt (upd H p (.lst ((rs.map V.ref).set x (.ref D)))) p n (fun a => if a = x then f else M a) (rs.set x D) := by
  refine ⟨?_, by rw [List.length_set]; exact m.len, fun a r e => ?_, ?_, ?_⟩
  · rw [upd_same, List.map_set]
  · have hr : r ≠ p := by
      intro z
      have hm := List.mem_of_getElem? e
      rcases List.mem_or_eq_of_mem_set hm with h | h
      · exact m.np (z ▸ h)
      · exact np (h ▸ z)
    rw [upd_ne hr]
    by_cases ha : a = x
    · subst ha
      have hl : a < rs.length := by
        have := (List.getElem?_eq_some_iff.mp e).1
        rw [List.length_set] at this
        exact this
      rw [List.getElem?_set_self hl] at e
      cases e
      rw [if_pos rfl]
      exact hD
    · rw [List.getElem?_set_ne (Ne.symm ha)] at e
      rw [if_neg ha]
      exact m.row a r e
  · by_cases hl : x < rs.length
    · refine List.pairwise_iff_getElem.mpr fun i j hi hj hij => ?_
      rw [List.getElem_set, List.getElem_set]
      rw [List.length_set] at hi hj
      have nd := List.pairwise_iff_getElem.mp m.nd i j hi hj hij
      by_cases e1 : x = i
      · rw [if_pos e1, if_neg (by omega)]
        intro z
        exact nD (z ▸ List.getElem_mem hj)
      · rw [if_neg e1]
        by_cases e2 : x = j
        · rw [if_pos e2]
          intro z
          exact nD (z ▸ List.getElem_mem hi)
        · rw [if_neg e2]
          exact nd
    · rw [List.set_eq_of_length_le (by omega)]
      exact m.nd
  · intro z
    rcases List.mem_or_eq_of_mem_set z with h | h
    · exact m.np h
    · exact np h.symm
/-! ### the closing of a relation -/
def relax (M : Nat → Nat → Bool) (mid low : Nat) : Nat → Nat → Bool := if M low mid then (fun a => if a = low then (fun b => M low b || M mid b) else M a) else M
def relaxes (M : Nat → Nat → Bool) (mid : Nat) : Nat → (Nat → Nat → Bool)
  | 0 => M
  | k + 1 => relax (relaxes M mid k) mid k
def closeM (n : Nat) (M : Nat → Nat → Bool) : Nat → (Nat → Nat → Bool)
  | 0 => M
  | k + 1 => relaxes (closeM n M k) k n
def prOf (d : PyData) : Nat × Nat :=
  match seqOf d with
  | some [.int a, .int b] => (a.toNat, b.toNat)
  | _ => (0, 0)
def initM (prs : List (Nat × Nat)) : Nat → Nat → Bool := fun a b => decide ((a, b) ∈ prs)
theorem initM_snoc {prs : List (Nat × Nat)} {x y : Nat} : setM (initM prs) x y true = initM (prs ++ [(x, y)]) := by
  funext a b
  unfold setM initM
  by_cases ha : a = x
  · subst ha
    by_cases hb : b = y
    · subst hb
      simp
    · simp [hb]
  · simp [ha]
theorem couple_ok {d : PyData} {hi : Int} (h : couple d hi = true) : ∃ a b : Nat, seqOf d = some [.int a, .int b] ∧ prOf d = (a, b) ∧ (a : Int) ≤ hi ∧ (b : Int) ≤ hi := by
  unfold couple at h
  cases hs : seqOf d with
  | none =>
    rw [hs] at h
    cases h
  | some l =>
    rw [hs] at h
    match l, h with
    | [u, v], h =>
      have h' : (whole u (some 0) (some hi) && whole v (some 0) (some hi)) = true := h
      rw [Bool.and_eq_true] at h'
      obtain ⟨h1, h2⟩ := h'
      cases u with
      | int i =>
        cases v with
        | int j =>
          simp only [whole, Bool.and_eq_true, decide_eq_true_eq] at h1 h2
          have ei : ((i.toNat : Nat) : Int) = i := by omega
          have ej : ((j.toNat : Nat) : Int) = j := by omega
          refine ⟨i.toNat, j.toNat, by rw [ei, ej], ?_, by omega, by omega⟩
          unfold prOf
          rw [hs]
        | _ => cases h2
      | _ => cases h1
end Z

set_option Elab.async false
set_option linter.all false
set_option maxRecDepth 100000
namespace Z
open PySem L2
/-! ### the rules by the written part's own name, so that they stand in a comprehension's block too -/
section
variable {X : Cx}
theorem kix_list (K : PySem.W.Frag) (h : X.K = K := by rfl) : IxR X (rIxL K) := by
  rw [← h]
  exact ix_list
theorem kix_tup (K : PySem.W.Frag) (h : X.K = K := by rfl) : IxR X (rIxT K) := by
  rw [← h]
  exact ix_tup
theorem kix_seq (K : PySem.W.Frag) (h : X.K = K := by rfl) : IxR X (rIx K) := by
  rw [← h]
  exact ix_seq
def rLenQ (K : PySem.W.Frag) : List V → Hp → VK → Prop := fun xs H Q => ∃ p ys, xs = [.ref p] ∧ (SqL K H p ys ∨ SqT K H p ys) ∧ Q (.int ys.length) H
theorem klen (K : PySem.W.Frag) (h : X.K = K := by rfl) : CallR X (.builtin "len") (rLenQ K) := by
  rw [← h]
  exact call_len_seq
def rListQ (K : PySem.W.Frag) : List V → Hp → VK → Prop := fun xs H Q => ∃ p ys, xs = [.ref p] ∧ (SqL K H p ys ∨ SqT K H p ys) ∧ ∀ l, H l = none → Q (.ref l) (upd H l (.lst ys))
theorem klist_of (K : PySem.W.Frag) (h : X.K = K := by rfl) : CallR X (.type "list") (rListQ K) := by
  rw [← h]
  exact call_list_of
def rTupQ (K : PySem.W.Frag) : List V → Hp → VK → Prop := fun xs H Q => ∃ p ys, xs = [.ref p] ∧ ((SqL K H p ys ∧ ∀ l, H l = none → Q (.ref l) (upd H l (.tup ys))) ∨ (SqT K H p ys ∧ Q (.ref p) H))
theorem ktuple_of (K : PySem.W.Frag) (h : X.K = K := by rfl) : CallR X (.type "tuple") (rTupQ K) := by
  rw [← h]
  exact call_tuple_of
theorem kin_seq (K : PySem.W.Frag) (h : X.K = K := by rfl) : OpR X (compareOp .In) (rIn K false) := by
  rw [← h]
  exact op_in_seq
theorem knotin_seq (K : PySem.W.Frag) (h : X.K = K := by rfl) : OpR X (compareOp .NotIn) (rIn K true) := by
  rw [← h]
  exact op_notIn_seq
theorem kisi (K : PySem.W.Frag) (h : X.K = K := by rfl) : CallR X (.builtin "isinstance") (rIsi K) := by
  rw [← h]
  exact call_isi
theorem kisiT (K : PySem.W.Frag) (h : X.K = K := by rfl) : CallR X (.builtin "isinstance") (rIsiT K) := by
  rw [← h]
  exact call_isiT
theorem kany (K : PySem.W.Frag) (hc : X.calm = true) (h : X.K = K := by rfl) : CallR X (.builtin "any") (rAny K) := by
  rw [← h]
  exact cr_any hc
theorem kcatT (K : PySem.W.Frag) (h : X.K = K := by rfl) : OpR X (binaryOp .Add) (rCatA K) := by
  rw [← h]
  exact op_catA
theorem ksl_list (K : PySem.W.Frag) (h : X.K = K := by rfl) : L2.SlR X (rSlL K) := by
  rw [← h]
  exact sl_list
theorem ksl_tup (K : PySem.W.Frag) (h : X.K = K := by rfl) : L2.SlR X (rSlA K) := by
  rw [← h]
  exact sl_tupA
theorem keqD (K : PySem.W.Frag) (hu : X.A.units + 64 < cLine) (h : X.K = K := by rfl) : OpR X (compareOp .Eq) (rEqD K) := by
  rw [← h]
  exact op_eqD hu
theorem kneD (K : PySem.W.Frag) (hu : X.A.units + 64 < cLine) (h : X.K = K := by rfl) : OpR X (compareOp .NotEq) (rNeD K) := by
  rw [← h]
  exact op_neD hu
def tTruQ (K : PySem.W.Frag) (ta : TE) : TT := fun σ H Q => ta σ H fun x H' => ∃ k, TruV K x H' k ∧ Q k H'
theorem kt_truth (K : PySem.W.Frag) {a : Expr} {ta : TE} (ha : PE X a ta) (he : ∀ whole, isTrue a X.env whole = (do let v ← whole; standAt a.pos; holding [v] (truthy v))) (h : X.K = K := by rfl) : PT X a (tTruQ K ta) := by
  rw [← h]
  exact pt_truth ha he
theorem kpi_list (K : PySem.W.Frag) {tg l : Expr} {tl : TE} (hl : PE X l tl) (h : X.K = K := by rfl) : PI X tg l (iList K tl) := by
  rw [← h]
  exact pi_list hl
theorem kpi_tup (K : PySem.W.Frag) {tg l : Expr} {tl : TE} (hl : PE X l tl) (h : X.K = K := by rfl) : PI X tg l (iTup K tl) := by
  rw [← h]
  exact pi_tup hl
theorem kpi_seqA (K : PySem.W.Frag) {tg l : Expr} {tl : TE} (hl : PE X l tl) (h : X.K = K := by rfl) : PI X tg l (ItA K tl) := by
  rw [← h]
  exact pi_seqA hl
theorem kfld (K : PySem.W.Frag) {e : Expr} {ta : TE} {f : Str} {pos : Pos} (he : PE X e ta) (hb : attributeBase e f X.env (eval e X.env) = eval e X.env) (h : X.K = K := by rfl) : PE X (.Attribute e f pos) (tFld K ta f) := by
  rw [← h]
  exact pe_fld he hb
end
end Z

set_option Elab.async false
set_option linter.all false
set_option maxRecDepth 100000
namespace Z
open PySem L2
/-! ## values without a heap -/
inductive D where
  | non | bl (b : Bool) | int (i : Int) | str (x : Str)
  | lst (ds : List D) | tup (ds : List D) | dct (ks : List Key) (ds : List D)
  | obj (C : Addr) (ns : List Str) (ds : List D) | cls (C : Addr) | hnd | ty (n : String)
  | tpx (ds : List D)
mutual
inductive Rv (K : PySem.W.Frag) (hd : Option Addr) (F : Hp) : V → D → Prop
  | non : Rv K hd F .non .non
  | bl (b : Bool) : Rv K hd F (.bl b) (.bl b)
  | int (i : Int) : Rv K hd F (.int i) (.int i)
  | str (x : Str) : Rv K hd F (.str x) (.str x)
  | lst {a : Addr} {xs : List V} {ds : List D} : F a = some (.lst xs) → RvA K hd F xs ds → Rv K hd F (.ref a) (.lst ds)
  | tup {a : Addr} {xs : List V} {ds : List D} : SqT K F a xs → RvA K hd F xs ds → Rv K hd F (.ref a) (.tup ds)
  | dct {a : Addr} {kv : List (Key × V)} {ks : List Key} {ds : List D} : F a = some (.dK kv) → kv.map (·.1) = ks → RvA K hd F (kv.map (·.2)) ds → Rv K hd F (.ref a) (.dct ks ds)
  | obj {a C dx : Addr} {fs : List (Str × V)} {ns : List Str} {ds : List D} : F a = some (.ins C dx fs) → fs.map (·.1) = ns → RvA K hd F (fs.map (·.2)) ds → Rv K hd F (.ref a) (.obj C ns ds)
  | cls (C : Addr) : Rv K hd F (.ref C) (.cls C)
  | ty (n : String) : Rv K hd F (.ty n) (.ty n)
  | tpx {a : Addr} {o : Obj} {xs : List V} {ds : List D} : F a = some (.frz o (.tup xs)) → o.dict = none → RvA K hd F xs ds → Rv K hd F (.ref a) (.tpx ds)
  | hnd {h : Addr} : hd = some h → Rv K hd F (.ref h) .hnd
inductive RvA (K : PySem.W.Frag) (hd : Option Addr) (F : Hp) : List V → List D → Prop
  | nil : RvA K hd F [] []
  | cons {v : V} {vs : List V} {d : D} {ds : List D} : Rv K hd F v d → RvA K hd F vs ds → RvA K hd F (v :: vs) (d :: ds)
end
section
variable {K : PySem.W.Frag} {hd : Option Addr} {F F' : Hp}
theorem Rd.same {H H' : Hp} {a : Addr} {u : HO} (s : Same H H') (h : Rd H a u) : Rd H' a u := by
  rcases h with h | ⟨o, h⟩
  · exact .inl (s _ _ h)
  · exact .inr ⟨o, s _ _ h⟩
mutual
theorem Rv.same (s : Same F F') : ∀ (d : D) (v : V), Rv K hd F v d → Rv K hd F' v d
  | .non, _, h => by cases h; exact .non
  | .bl b, _, h => by cases h; exact .bl b
  | .int i, _, h => by cases h; exact .int i
  | .str x, _, h => by cases h; exact .str x
  | .lst ds, _, h => by
    cases h with
    | lst a b => exact .lst (s _ _ a) (RvA.same s ds _ b)
  | .tup ds, _, h => by
    cases h with
    | tup a b => exact .tup (Same.sqT s a) (RvA.same s ds _ b)
  | .dct ks ds, _, h => by
    cases h with
    | dct a e b => exact .dct (s _ _ a) e (RvA.same s ds _ b)
  | .obj C ns ds, _, h => by
    cases h with
    | obj a e b => exact .obj (s _ _ a) e (RvA.same s ds _ b)
  | .cls C, _, h => by cases h; exact .cls _
  | .ty n, _, h => by cases h; exact .ty _
  | .tpx ds, _, h => by
    cases h with
    | tpx a e b => exact .tpx (s _ _ a) e (RvA.same s ds _ b)
  | .hnd, _, h => by
    cases h with
    | hnd e => exact .hnd e
theorem RvA.same (s : Same F F') : ∀ (ds : List D) (vs : List V), RvA K hd F vs ds → RvA K hd F' vs ds
  | [], _, h => by cases h; exact .nil
  | d :: ds, _, h => by
    cases h with
    | cons a b => exact .cons (Rv.same s d _ a) (RvA.same s ds _ b)
end
theorem Rv.mono {v : V} {d : D} (h : Rv K hd F v d) (s : Same F F') : Rv K hd F' v d := Rv.same s d v h
theorem RvA.mono {v : List V} {d : List D} (h : RvA K hd F v d) (s : Same F F') : RvA K hd F' v d := RvA.same s d v h
theorem RvA.len : ∀ {ds : List D} {vs : List V}, RvA K hd F vs ds → vs.length = ds.length
  | [], _, h => by cases h; rfl
  | d :: ds, _, h => by
    cases h with
    | cons a b => simp [RvA.len b]
theorem RvA.get : ∀ {ds : List D} {vs : List V} {i : Nat} {v : V}, RvA K hd F vs ds → vs[i]? = some v → ∃ d, ds[i]? = some d ∧ Rv K hd F v d
  | [], _, i, v, h, e => by cases h; simp at e
  | d :: ds, _, 0, v, h, e => by
    cases h with
    | cons a b =>
      simp at e
      subst e
      exact ⟨d, rfl, a⟩
  | d :: ds, _, i + 1, v, h, e => by
    cases h with
    | cons a b =>
      obtain ⟨d', h1, h2⟩ := RvA.get (i := i) (v := v) b (by simpa using e)
      exact ⟨d', by simpa using h1, h2⟩
theorem RvA.get' : ∀ {ds : List D} {vs : List V} {i : Nat} {d : D}, RvA K hd F vs ds → ds[i]? = some d → ∃ v, vs[i]? = some v ∧ Rv K hd F v d
  | [], _, i, v, h, e => by simp at e
  | d :: ds, _, 0, v, h, e => by
    cases h with
    | cons a b =>
      simp at e
      subst e
      exact ⟨_, rfl, a⟩
  | d :: ds, _, i + 1, v, h, e => by
    cases h with
    | cons a b =>
      obtain ⟨d', h1, h2⟩ := RvA.get' (i := i) (d := v) b (by simpa using e)
      exact ⟨d', by simpa using h1, h2⟩
theorem RvA.app : ∀ {ds es : List D} {vs ws : List V}, RvA K hd F vs ds → RvA K hd F ws es → RvA K hd F (vs ++ ws) (ds ++ es)
  | [], _, _, _, h, g => by cases h; exact g
  | d :: ds, _, _, _, h, g => by
    cases h with
    | cons a b => exact .cons a (RvA.app b g)
theorem RvA.take : ∀ {ds : List D} {vs : List V} (n : Nat), RvA K hd F vs ds → RvA K hd F (vs.take n) (ds.take n)
  | _, _, 0, _ => by simpa using .nil
  | [], _, n + 1, h => by cases h; exact .nil
  | d :: ds, _, n + 1, h => by
    cases h with
    | cons a b => exact .cons a (RvA.take n b)
theorem RvA.drop : ∀ {ds : List D} {vs : List V} (n : Nat), RvA K hd F vs ds → RvA K hd F (vs.drop n) (ds.drop n)
  | _, _, 0, h => h
  | [], _, n + 1, h => by cases h; exact .nil
  | d :: ds, _, n + 1, h => by
    cases h with
    | cons a b => exact RvA.drop n b
theorem RvA.set {v : V} {d : D} (r : Rv K hd F v d) : ∀ {ds : List D} {vs : List V} (n : Nat), RvA K hd F vs ds → RvA K hd F (vs.set n v) (ds.set n d)
  | [], _, _, h => by cases h; exact .nil
  | _ :: _, _, 0, h => by
    cases h with
    | cons a b => exact .cons r b
  | _ :: _, _, n + 1, h => by
    cases h with
    | cons a b => exact .cons a (RvA.set r n b)
theorem RvA.erase : ∀ {ds : List D} {vs : List V} (n : Nat), RvA K hd F vs ds → RvA K hd F (vs.eraseIdx n) (ds.eraseIdx n)
  | [], _, _, h => by cases h; exact .nil
  | _ :: _, _, 0, h => by
    cases h with
    | cons a b => exact b
  | _ :: _, _, n + 1, h => by
    cases h with
    | cons a b => exact .cons a (RvA.erase n b)
theorem RvA.ints : ∀ {ns : List Int} {vs : List V}, RvA K hd F vs (ns.map D.int) → vs = ns.map V.int
  | [], _, h => by cases h; rfl
  | n :: ns, _, h => by
    cases h with
    | cons a b =>
      cases a
      rw [RvA.ints b]
      rfl
theorem RvA.ofInts : ∀ (ns : List Int), RvA K hd F (ns.map V.int) (ns.map D.int)
  | [] => .nil
  | n :: ns => .cons (.int n) (RvA.ofInts ns)
end
/-! ## no list within -/
mutual
def noL : D → Bool
  | .lst _ => false
  | .dct _ _ => false
  | .tup ds => noLA ds
  | .obj _ _ ds => noLA ds
  | .tpx ds => noLA ds
  | _ => true
def noLA : List D → Bool
  | [] => true
  | d :: ds => noL d && noLA ds
end
/-! ## what a name holds; what an expression gives -/
inductive OV where
  | dat (d : D)
  | own (ds : List D)
  | dic (ks : List Key) (ds : List D)
abbrev En := List (Option OV)
def OV.isOwn : OV → Bool
  | .dat _ => false
  | _ => true
def OV.frz : OV → D
  | .dat d => d
  | .own ds => .lst ds
  | .dic ks ds => .dct ks ds
inductive R where
  | dat (d : D)
  | var (i : Nat)
  | new (ds : List D)
def vl (ρ : En) : R → D
  | .dat d => d
  | .new ds => .lst ds
  | .var i => match ρ[i]? with
    | some (some o) => o.frz
    | _ => .non
def R.isVar : R → Bool
  | .var _ => true
  | _ => false
/-! ## tables of code objects: what the making of a lambda lets grow -/
class TabsP where
  T : List (Addr × Str)
variable [TabsP]
def IsTbl (o : HO) : Prop := ∃ ps, o = .tbl ps
/-- nothing, or a table -/
def NoO (H : Hp) (p : Addr) : Prop := ∀ o, H p = some o → IsTbl o
theorem NoO.of {H : Hp} {p : Addr} (h : H p = none) : NoO H p := fun o e => by rw [h] at e; cases e
theorem NoO.ne {H : Hp} {p : Addr} {u : HO} (h : NoO H p) (e : H p = some u) (t : ∀ ps, u ≠ .tbl ps) : False := by
  obtain ⟨ps, z⟩ := h u e
  exact t ps z
theorem someO {H : Hp} {p : Addr} {u : HO} (e : H p = some u) (t : ∀ ps, u ≠ .tbl ps) : ¬ NoO H p := fun h => h.ne e t
/-- frozen, within; the tables are there -/
structure Sub (F H : Hp) : Prop where
  s : Same F H
  nt : ∀ b ps, F b ≠ some (.tbl ps)
  tb : LamX.Tabs TabsP.T H
/-- the entry of a def: the module's facts, the hand, the frozen heap, the heap -/
structure Bs where
  K : PySem.W.Frag
  md : Option (Addr × Addr)
  F0 : Hp
  H0 : Hp
  a0 : ∀ p, md = some p → ¬ NoO H0 p.2
abbrev Bs.hd (B : Bs) : Option Addr := B.md.map (·.1)
def RvO (B : Bs) (F H : Hp) (v : V) : OV → Prop
  | .dat d => Rv B.K B.hd F v d
  | .own ds => ∃ p vs, v = .ref p ∧ H p = some (.lst vs) ∧ RvA B.K B.hd F vs ds ∧ F p = none ∧ NoO B.H0 p
  | .dic ks ds => ∃ p kv, v = .ref p ∧ H p = some (.dK kv) ∧ kv.map (·.1) = ks ∧ RvA B.K B.hd F (kv.map (·.2)) ds ∧ F p = none ∧ NoO B.H0 p
structure Rel (B : Bs) (F : Hp) (ρ : En) (σ : L2.St) (H : Hp) : Prop where
  len : ρ.length = σ.length
  sb : Sub F H
  fro : Same B.F0 F
  new : ∀ b, F b ≠ none → B.F0 b ≠ none ∨ NoO B.H0 b
  kept : ∀ b o, B.H0 b = some o → (∀ p, B.md = some p → b ≠ p.1) → ¬ IsTbl o → H b = some o
  hnd : ∀ p, B.md = some p → Hnd H p.1 p.2 ∧ F p.1 = none ∧ ¬ NoO B.H0 p.1
  var : ∀ (i : Nat) (o : OV), ρ[i]? = some (some o) → ∃ v, σ[i]? = some (some v) ∧ RvO B F H v o
  ap : ∀ (i j : Nat) (o o' : OV) (v : V), ρ[i]? = some (some o) → ρ[j]? = some (some o') → o.isOwn = true → o'.isOwn = true → σ[i]? = some (some v) → σ[j]? = some (some v) → i = j
theorem Rel.sub {B : Bs} {F : Hp} {ρ : En} {σ : L2.St} {H : Hp} (r : Rel B F ρ σ H) : Same F H := r.sb.s
/-- a new list that no name holds yet -/
def NewL (B : Bs) (F : Hp) (ρ : En) (σ : L2.St) (H : Hp) (ds : List D) (v : V) : Prop :=
  ∃ p vs, v = .ref p ∧ H p = some (.lst vs) ∧ RvA B.K B.hd F vs ds ∧ F p = none ∧ NoO B.H0 p ∧ ∀ (i : Nat) (o : OV), ρ[i]? = some (some o) → o.isOwn = true → σ[i]? ≠ some (some (V.ref p))
def RvR (B : Bs) (F : Hp) (ρ : En) (σ : L2.St) (H : Hp) (v : V) : R → Prop
  | .dat d => Rv B.K B.hd F v d
  | .var i => σ[i]? = some (some v) ∧ ∃ o, ρ[i]? = some (some o)
  | .new ds => NewL B F ρ σ H ds v
section
variable {B : Bs} {F F' H H' : Hp} {ρ ρ' : En} {σ : L2.St}
theorem RvO.own {v : V} {o : OV} (h : RvO B F H v o) (w : o.isOwn = true) : ∃ p u, v = .ref p ∧ H p = some u ∧ F p = none ∧ NoO B.H0 p ∧ (∀ xs, u ≠ .tup xs) ∧ (∀ a b, u ≠ .frz a b) ∧ (∀ a b c, u ≠ .ins a b c) := by
  cases o with
  | dat d => cases w
  | own ds =>
    obtain ⟨p, vs, e, h1, _, h2, h3⟩ := h
    exact ⟨p, _, e, h1, h2, h3, fun _ z => (by cases z), fun _ _ z => (by cases z), fun _ _ _ z => (by cases z)⟩
  | dic ks ds =>
    obtain ⟨p, vs, e, h1, _, _, h2, h3⟩ := h
    exact ⟨p, _, e, h1, h2, h3, fun _ z => (by cases z), fun _ _ z => (by cases z), fun _ _ _ z => (by cases z)⟩
/-- a larger frozen heap and a grown heap -/
theorem RvO.mono {v : V} {o : OV} (h : RvO B F H v o) (s : Same F F') (k : ∀ p u, v = .ref p → o.isOwn = true → H p = some u → H' p = some u ∧ F' p = none) : RvO B F' H' v o := by
  cases o with
  | dat d => exact Rv.mono h s
  | own ds =>
    obtain ⟨p, vs, e, h1, h2, h3, h4⟩ := h
    obtain ⟨k1, k2⟩ := k p _ e rfl h1
    exact ⟨p, vs, e, k1, h2.mono s, k2, h4⟩
  | dic ks ds =>
    obtain ⟨p, vs, e, h1, h1', h2, h3, h4⟩ := h
    obtain ⟨k1, k2⟩ := k p _ e rfl h1
    exact ⟨p, vs, e, k1, h1', h2.mono s, k2, h4⟩
theorem Rel.own (r : Rel B F ρ σ H) {i : Nat} {o : OV} (e : ρ[i]? = some (some o)) (w : o.isOwn = true) : ∃ p u, σ[i]? = some (some (.ref p)) ∧ H p = some u ∧ F p = none ∧ NoO B.H0 p ∧ (∀ xs, u ≠ .tup xs) ∧ (∀ a b, u ≠ .frz a b) ∧ (∀ a b c, u ≠ .ins a b c) := by
  obtain ⟨v, e1, h⟩ := r.var i o e
  obtain ⟨p, u, rfl, q⟩ := h.own w
  exact ⟨p, u, e1, q⟩
/-- no table and no code object -/
def KeepT (o : HO) : Prop := (∀ ps, o ≠ .tbl ps) ∧ ∀ f, o ≠ .ext f
theorem tabs_upd {T : List (Addr × Str)} {p : Addr} {u : HO} (t : LamX.Tabs T H) (pt : ∀ w, H p = some w → KeepT w) : LamX.Tabs T (upd H p u) := fun q hq => by
  obtain ⟨ps, h1, h2, h3⟩ := t q hq
  have n : ∀ b o, H b = some o → ¬ KeepT o → b ≠ p := fun b o e k z => k (pt o (by rw [← z]; exact e))
  refine ⟨ps, by rw [upd_ne (n _ _ h1 fun k => k.1 _ rfl)]; exact h1, h2, fun pos cv hc => ?_⟩
  obtain ⟨c, e1, e2⟩ := h3 pos cv hc
  exact ⟨c, e1, by rw [upd_ne (n _ _ e2 fun k => k.2 _ rfl)]; exact e2⟩
theorem tabs_off {T : List (Addr × Str)} {p : Addr} (t : LamX.Tabs T H) (pt : ∀ w, H p = some w → KeepT w) (k : ∀ b o, H b = some o → b ≠ p → H' b = some o) : LamX.Tabs T H' := fun q hq => by
  obtain ⟨ps, h1, h2, h3⟩ := t q hq
  have n : ∀ b o, H b = some o → ¬ KeepT o → b ≠ p := fun b o e k z => k (pt o (by rw [← z]; exact e))
  refine ⟨ps, k _ _ h1 (n _ _ h1 fun k => k.1 _ rfl), h2, fun pos cv hc => ?_⟩
  obtain ⟨c, e1, e2⟩ := h3 pos cv hc
  exact ⟨c, e1, k _ _ e2 (n _ _ e2 fun k => k.2 _ rfl)⟩
theorem Hnd.kt {H : Hp} {h a : Addr} (n : Hnd H h a) : ∀ w, H h = some w → KeepT w := fun w z => by
  obtain ⟨cs, i, r, t, e, _⟩ := n.ex
  rw [e] at z
  cases z
  exact ⟨fun _ z => (by cases z), fun _ z => (by cases z)⟩
theorem kt_lst {H : Hp} {p : Addr} {xs : List V} (e : H p = some (.lst xs)) : ∀ w, H p = some w → KeepT w := fun w z => by
  rw [e] at z
  cases z
  exact ⟨fun _ z => (by cases z), fun _ z => (by cases z)⟩
theorem kt_dK {H : Hp} {p : Addr} {xs : List (Key × V)} (e : H p = some (.dK xs)) : ∀ w, H p = some w → KeepT w := fun w z => by
  rw [e] at z
  cases z
  exact ⟨fun _ z => (by cases z), fun _ z => (by cases z)⟩
theorem RvO.kt {v : V} {o : OV} {p : Addr} (h : RvO B F H v o) (w : o.isOwn = true) (e : v = .ref p) : ∀ u, H p = some u → KeepT u := by
  cases o with
  | dat d => cases w
  | own ds =>
    obtain ⟨q, vs, e', h1, _⟩ := h
    rw [e] at e'
    cases e'
    exact kt_lst h1
  | dic ks ds =>
    obtain ⟨q, vs, e', h1, _⟩ := h
    rw [e] at e'
    cases e'
    exact kt_dK h1
theorem RvO.nt {v : V} {o : OV} {p : Addr} {u : HO} (h : RvO B F H v o) (w : o.isOwn = true) (e : v = .ref p) (eu : H p = some u) : ¬ IsTbl u := fun ⟨ps, z⟩ => (h.kt w e u eu).1 ps z
theorem Hnd.ex1 {H : Hp} {h a : Addr} (n : Hnd H h a) : ∃ u, H h = some u ∧ ∀ ps, u ≠ .tbl ps := by
  obtain ⟨cs, i, r, t, e, _⟩ := n.ex
  exact ⟨_, e, fun ps z => by cases z⟩
theorem Hnd.ex2 {H : Hp} {h a : Addr} (n : Hnd H h a) : ∃ u, H a = some u ∧ ∀ ps, u ≠ .tbl ps := by
  obtain ⟨cs, i, r, t, _, e, _⟩ := n.ex
  exact ⟨_, e, fun ps z => by cases z⟩
/-- where there is nothing now there was nothing -/
theorem Rel.no0 (r : Rel B F ρ σ H) {b : Addr} (z : NoO H b) : NoO B.H0 b := fun o q => by
  apply Classical.byContradiction
  intro nt
  by_cases hh : ∀ p, B.md = some p → b ≠ p.1
  · exact nt (z o (r.kept b o q hh nt))
  · have : ∃ p, B.md = some p ∧ b = p.1 := Classical.byContradiction fun w => hh fun p e1 e2 => w ⟨p, e1, e2⟩
    obtain ⟨p, e1, e2⟩ := this
    obtain ⟨u, hu, t⟩ := (r.hnd p e1).1.ex1
    rw [← e2] at hu
    exact z.ne hu t
/-- the heap grows by a new object that is frozen (or not) -/
theorem Rel.grow (r : Rel B F ρ σ H) (s1 : Same F F') (s2 : Same H H') (s3 : Same F' H') (nw : ∀ b, F' b ≠ none → F b ≠ none ∨ H b = none) (nt : ∀ b ps, F' b = some (.tbl ps) → F b ≠ none) : Rel B F' ρ σ H' := by
  have off : ∀ p u, H p = some u → F p = none → F' p = none := fun p u e n => by
    cases q : F' p with
    | none => rfl
    | some o =>
      rcases nw p (by rw [q]; simp) with z | z
      · exact absurd n z
      · rw [e] at z; cases z
  have nt' : ∀ b ps, F' b ≠ some (.tbl ps) := fun b ps z => by
    cases q : F b with
    | none => exact nt b ps z q
    | some o =>
      have := s1 b o q
      rw [z] at this
      cases this
      exact r.sb.nt b ps q
  refine ⟨r.len, ⟨s3, nt', r.sb.tb.ext s2⟩, r.fro.trans s1, fun b hb => ?_, fun b o e n t => s2 _ _ (r.kept b o e n t), fun p e => ?_, fun i o e => ?_, r.ap⟩
  · rcases nw b hb with z | z
    · exact r.new b z
    · exact .inr (r.no0 (.of z))
  · obtain ⟨h1, h2, h3⟩ := r.hnd p e
    obtain ⟨u, hu⟩ := h1.there
    exact ⟨h1.same s2, off _ _ hu h2, h3⟩
  · obtain ⟨v, e1, h⟩ := r.var i o e
    refine ⟨v, e1, h.mono s1 fun p u ep w hp => ?_⟩
    subst ep
    obtain ⟨p', u', e', _, n, _⟩ := h.own w
    cases e'
    exact ⟨s2 _ _ hp, off _ _ hp n⟩
/-- a new frozen object -/
theorem Rel.newF (r : Rel B F ρ σ H) {p : Addr} {u : HO} (n : H p = none) (ut : ∀ ps, u ≠ .tbl ps := by intro ps z; cases z) : Rel B (upd F p u) ρ σ (upd H p u) ∧ Same F (upd F p u) := by
  have nF : F p = none := by
    cases q : F p with
    | none => rfl
    | some o => rw [r.sub _ _ q] at n; cases n
  refine ⟨r.grow (same_new nF) (same_new n) (fun b o e => ?_) (fun b hb => ?_) fun b ps e => ?_, same_new nF⟩
  · by_cases hb : b = p
    · subst hb
      rw [upd_same] at e ⊢
      exact e
    · rw [upd_ne hb] at e ⊢
      exact r.sub _ _ e
  · by_cases e : b = p
    · subst e
      exact .inr n
    · rw [upd_ne e] at hb
      exact .inl hb
  · by_cases hb : b = p
    · subst hb
      rw [upd_same] at e
      cases e
      exact absurd rfl (ut ps)
    · rw [upd_ne hb] at e
      rw [e]
      simp
/-- a new object that is not frozen -/
theorem Rel.newO (r : Rel B F ρ σ H) {p : Addr} {u : HO} (n : H p = none) : Rel B F ρ σ (upd H p u) :=
  r.grow (Same.refl _) (same_new n) (fun b o e => same_new n _ _ (r.sub _ _ e)) (fun b hb => .inl hb) fun b ps e => by rw [e]; simp
theorem Rel.noF (r : Rel B F ρ σ H) {p : Addr} (n : H p = none) : F p = none := by
  cases q : F p with
  | none => rfl
  | some o => rw [r.sub _ _ q] at n; cases n
/-- a new list -/
theorem Rel.newL (r : Rel B F ρ σ H) {p : Addr} {vs : List V} {ds : List D} (n : H p = none) (a : RvA B.K B.hd F vs ds) : Rel B F ρ σ (upd H p (.lst vs)) ∧ NewL B F ρ σ (upd H p (.lst vs)) ds (.ref p) := by
  refine ⟨r.newO n, p, vs, rfl, upd_same, a, r.noF n, r.no0 (.of n), fun i o e w z => ?_⟩
  obtain ⟨q, u, e1, h1, _⟩ := r.own e w
  rw [e1] at z
  cases z
  rw [h1] at n; cases n
/-- a new list is frozen -/
theorem Rel.frzL (r : Rel B F ρ σ H) {ds : List D} {v : V} (h : NewL B F ρ σ H ds v) : ∃ F', Same F F' ∧ Rel B F' ρ σ H ∧ Rv B.K B.hd F' v (.lst ds) := by
  obtain ⟨p, vs, rfl, e, a, n, n0, ne⟩ := h
  have s : Same F (upd F p (.lst vs)) := same_new n
  have nt' : ∀ b ps, upd F p (HO.lst vs) b ≠ some (.tbl ps) := fun b ps z => by
    by_cases hb : b = p
    · subst hb
      rw [upd_same] at z
      cases z
    · rw [upd_ne hb] at z
      exact r.sb.nt b ps z
  refine ⟨upd F p (.lst vs), s, ⟨r.len, ⟨fun b o q => ?_, nt', r.sb.tb⟩, r.fro.trans s, fun b hb => ?_, r.kept, fun q z => ?_, fun i o z => ?_, r.ap⟩, .lst upd_same (a.mono s)⟩
  · by_cases hb : b = p
    · subst hb
      rw [upd_same] at q
      cases q
      exact e
    · rw [upd_ne hb] at q
      exact r.sub _ _ q
  · by_cases hb' : b = p
    · subst hb'
      exact .inr n0
    · rw [upd_ne hb'] at hb
      exact r.new b hb
  · obtain ⟨h1, h2, h3⟩ := r.hnd q z
    refine ⟨h1, ?_, h3⟩
    rw [upd_ne (fun w => h3 (by rw [w]; exact n0))]
    exact h2
  · obtain ⟨v, e1, h⟩ := r.var i o z
    refine ⟨v, e1, h.mono s fun q u ev w hq => ⟨hq, ?_⟩⟩
    subst ev
    obtain ⟨p', u', e', _, n', _⟩ := h.own w
    cases e'
    rw [upd_ne (fun w2 => ne i o z w (by rw [e1, w2]))]
    exact n'
end
/-! ## all names' own lists, lent -/
def Own (ρ : En) (σ : L2.St) (b : Addr) : Prop := ∃ (i : Nat) (o : OV), ρ[i]? = some (some o) ∧ o.isOwn = true ∧ σ[i]? = some (some (V.ref b))
open Classical in
noncomputable def lend (F : Hp) (ρ : En) (σ : L2.St) (H : Hp) : Hp := fun b => if Own ρ σ b then H b else F b
open Classical in
noncomputable def unlend (F : Hp) (ρ : En) (σ : L2.St) : Hp := fun b => if Own ρ σ b then none else F b
def lent (ρ : En) : En := ρ.map fun o => o.map fun o => OV.dat o.frz
section
variable {B : Bs} {F F' H H' : Hp} {ρ ρ' : En} {σ : L2.St}
theorem lend_of {b : Addr} (h : Own ρ σ b) : lend F ρ σ H b = H b := by unfold lend; rw [if_pos h]
theorem lend_no {b : Addr} (h : ¬ Own ρ σ b) : lend F ρ σ H b = F b := by unfold lend; rw [if_neg h]
theorem unlend_of {b : Addr} (h : Own ρ σ b) : unlend F ρ σ b = none := by unfold unlend; rw [if_pos h]
theorem unlend_no {b : Addr} (h : ¬ Own ρ σ b) : unlend F ρ σ b = F b := by unfold unlend; rw [if_neg h]
theorem Rel.ownF (r : Rel B F ρ σ H) {b : Addr} (h : Own ρ σ b) : F b = none ∧ NoO B.H0 b ∧ ∃ u, H b = some u ∧ (∀ xs, u ≠ .tup xs) ∧ (∀ a b, u ≠ .frz a b) ∧ (∀ a b c, u ≠ .ins a b c) := by
  obtain ⟨i, o, e, w, es⟩ := h
  obtain ⟨p, u, e1, h1, h2, h3, h4⟩ := r.own e w
  rw [es] at e1
  cases e1
  exact ⟨h2, h3, u, h1, h4⟩
theorem Rel.lend_same (r : Rel B F ρ σ H) : Same F (lend F ρ σ H) := fun b o e => by
  by_cases h : Own ρ σ b
  · rw [(r.ownF h).1] at e; cases e
  · rw [lend_no h]; exact e
theorem lent_get {i : Nat} {o : OV} (h : (lent ρ)[i]? = some (some o)) : ∃ o', ρ[i]? = some (some o') ∧ o = .dat o'.frz := by
  unfold lent at h
  rw [List.getElem?_map] at h
  cases e : ρ[i]? with
  | none => rw [e] at h; cases h
  | some q =>
    rw [e] at h
    cases q with
    | none => cases h
    | some o' =>
      cases h
      exact ⟨o', rfl, rfl⟩
theorem Rel.frzO (r : Rel B F ρ σ H) {i : Nat} {o : OV} {v : V} (e : ρ[i]? = some (some o)) (es : σ[i]? = some (some v)) : Rv B.K B.hd (lend F ρ σ H) v o.frz := by
  obtain ⟨v', e1, h⟩ := r.var i o e
  rw [es] at e1
  cases e1
  have s := r.lend_same
  cases o with
  | dat d => exact Rv.mono h s
  | own ds =>
    obtain ⟨p, vs, rfl, h1, h2, _⟩ := h
    refine .lst (?_ : Z.lend F ρ σ H p = _) (h2.mono s)
    rw [lend_of ⟨i, _, e, rfl, es⟩]
    exact h1
  | dic ks ds =>
    obtain ⟨p, kv, rfl, h1, h1', h2, _⟩ := h
    refine .dct (?_ : Z.lend F ρ σ H p = _) h1' (h2.mono s)
    rw [lend_of ⟨i, _, e, rfl, es⟩]
    exact h1
theorem Rel.lend (r : Rel B F ρ σ H) : Rel B (lend F ρ σ H) (lent ρ) σ H := by
  have nt' : ∀ b ps, Z.lend F ρ σ H b ≠ some (.tbl ps) := fun b ps z => by
    by_cases h : Own ρ σ b
    · rw [lend_of h] at z
      obtain ⟨i, o, e, w, es⟩ := h
      obtain ⟨v, ev, hv⟩ := r.var i o e
      rw [es] at ev
      cases ev
      exact hv.nt w rfl z ⟨ps, rfl⟩
    · rw [lend_no h] at z
      exact r.sb.nt b ps z
  refine ⟨by unfold lent; rw [List.length_map]; exact r.len, ⟨fun b o e => ?_, nt', r.sb.tb⟩, r.fro.trans r.lend_same, fun b hb => ?_, r.kept, fun p e => ?_, fun i o e => ?_, fun i j o o' v e1 e2 w => ?_⟩
  · by_cases h : Own ρ σ b
    · rw [lend_of h] at e; exact e
    · rw [lend_no h] at e; exact r.sub _ _ e
  · by_cases h : Own ρ σ b
    · exact .inr (r.ownF h).2.1
    · rw [lend_no h] at hb; exact r.new b hb
  · obtain ⟨h1, h2, h3⟩ := r.hnd p e
    refine ⟨h1, ?_, h3⟩
    rw [lend_no fun h => h3 (r.ownF h).2.1]
    exact h2
  · obtain ⟨o', e', rfl⟩ := lent_get e
    obtain ⟨v, es, _⟩ := r.var i o' e'
    exact ⟨v, es, r.frzO e' es⟩
  · obtain ⟨o1, _, rfl⟩ := lent_get e1
    cases w
theorem Rel.val (r : Rel B F ρ σ H) {x : R} {v : V} (h : RvR B F ρ σ H v x) (nn : ∀ ds, x ≠ .new ds) : Rv B.K B.hd (Z.lend F ρ σ H) v (vl ρ x) := by
  cases x with
  | dat d => exact Rv.mono h r.lend_same
  | new ds => exact absurd rfl (nn ds)
  | var i =>
    obtain ⟨es, o, e⟩ := h
    have e2 : vl ρ (.var i) = o.frz := by
      show (match ρ[i]? with | some (some o) => o.frz | _ => D.non) = _
      rw [e]
    rw [e2]
    exact r.frzO e es
mutual
theorem Rv.less (h : ∀ b u, F b = some u → F' b = some u ∨ ((∀ xs, u ≠ .tup xs) ∧ (∀ a b, u ≠ .frz a b) ∧ (∀ a b c, u ≠ .ins a b c))) : ∀ (d : D) (v : V), noL d = true → Rv B.K B.hd F v d → Rv B.K B.hd F' v d
  | .non, _, _, q => by cases q; exact .non
  | .bl b, _, _, q => by cases q; exact .bl b
  | .int i, _, _, q => by cases q; exact .int i
  | .str x, _, _, q => by cases q; exact .str x
  | .lst ds, _, n, _ => by simp [noL] at n
  | .dct _ ds, _, n, _ => by simp [noL] at n
  | .tup ds, _, n, q => by
    cases q with
    | tup a b =>
      refine .tup ?_ (RvA.less h ds _ (by simpa [noL] using n) b)
      rcases a with (a | ⟨o, a⟩) | a
      · rcases h _ _ a with z | z
        · exact .inl (.inl z)
        · exact absurd rfl (z.1 _)
      · rcases h _ _ a with z | z
        · exact .inl (.inr ⟨o, z⟩)
        · exact absurd rfl (z.2.1 _ _)
      · exact .inr a
  | .obj C ns ds, _, n, q => by
    cases q with
    | obj a e b =>
      rcases h _ _ a with z | z
      · exact .obj z e (RvA.less h ds _ (by simpa [noL] using n) b)
      · exact absurd rfl (z.2.2 _ _ _)
  | .cls C, _, _, q => by cases q; exact .cls _
  | .ty n, _, _, q => by cases q; exact .ty _
  | .tpx ds, _, n, q => by
    cases q with
    | tpx a e b =>
      rcases h _ _ a with z | z
      · exact .tpx z e (RvA.less h ds _ (by simpa [noL] using n) b)
      · exact absurd rfl (z.2.1 _ _)
  | .hnd, _, _, q => by
    cases q with
    | hnd e => exact .hnd e
theorem RvA.less (h : ∀ b u, F b = some u → F' b = some u ∨ ((∀ xs, u ≠ .tup xs) ∧ (∀ a b, u ≠ .frz a b) ∧ (∀ a b c, u ≠ .ins a b c))) : ∀ (ds : List D) (vs : List V), noLA ds = true → RvA B.K B.hd F vs ds → RvA B.K B.hd F' vs ds
  | [], _, _, q => by cases q; exact .nil
  | d :: ds, _, n, q => by
    simp [noLA] at n
    cases q with
    | cons a b => exact .cons (Rv.less h d _ n.1 a) (RvA.less h ds _ n.2 b)
end
/-- the own lists are taken back -/
theorem Rel.back (r : Rel B F ρ σ H) (s : Same (Z.lend F ρ σ H) F') (r' : Rel B F' (lent ρ) σ H') : Rel B (unlend F' ρ σ) ρ σ H' ∧ Same F (unlend F' ρ σ) ∧
    (∀ b u, F' b = some u → unlend F' ρ σ b = some u ∨ ((∀ xs, u ≠ .tup xs) ∧ (∀ a b, u ≠ .frz a b) ∧ (∀ a b c, u ≠ .ins a b c))) := by
  have hk : ∀ b u, Own ρ σ b → H b = some u → F' b = some u ∧ H' b = some u := fun b u w e => by
    have := s b u (by rw [lend_of w]; exact e)
    exact ⟨this, r'.sub _ _ this⟩
  have sF : Same F (unlend F' ρ σ) := fun b o e => by
    have n : ¬ Own ρ σ b := fun w => by rw [(r.ownF w).1] at e; cases e
    rw [unlend_no n]
    exact s b o (by rw [lend_no n]; exact e)
  have nt' : ∀ b ps, unlend F' ρ σ b ≠ some (.tbl ps) := fun b ps z => by
    by_cases w : Own ρ σ b
    · rw [unlend_of w] at z; cases z
    · rw [unlend_no w] at z
      exact r'.sb.nt b ps z
  refine ⟨⟨r.len, ⟨fun b o e => ?_, nt', r'.sb.tb⟩, r.fro.trans sF, fun b hb => ?_, r'.kept, fun p e => ?_, fun i o e => ?_, r.ap⟩, sF, fun b u e => ?_⟩
  · by_cases w : Own ρ σ b
    · rw [unlend_of w] at e; cases e
    · rw [unlend_no w] at e; exact r'.sub _ _ e
  · by_cases w : Own ρ σ b
    · rw [unlend_of w] at hb; exact absurd rfl hb
    · rw [unlend_no w] at hb; exact r'.new b hb
  · obtain ⟨h1, h2, h3⟩ := r'.hnd p e
    refine ⟨h1, ?_, h3⟩
    rw [unlend_no fun w => h3 (r.ownF w).2.1]
    exact h2
  · obtain ⟨v, es, h⟩ := r.var i o e
    refine ⟨v, es, h.mono sF fun p u ev w hp => ?_⟩
    subst ev
    have ow : Own ρ σ p := ⟨i, o, e, w, es⟩
    exact ⟨(hk p u ow hp).2, unlend_of ow⟩
  · by_cases w : Own ρ σ b
    · obtain ⟨_, _, u', e', q⟩ := r.ownF w
      rw [(hk b u' w e').1] at e
      cases e
      exact .inr q
    · exact .inl (by rw [unlend_no w]; exact e)
theorem Rel.backNew (r : Rel B F ρ σ H) (s : Same (Z.lend F ρ σ H) F') (r' : Rel B F' (lent ρ) σ H') {ds : List D} {v : V} (h : NewL B F' (lent ρ) σ H' ds v) (n : noLA ds = true) : NewL B (unlend F' ρ σ) ρ σ H' ds v := by
  obtain ⟨p, vs, rfl, e, a, nF, n0, _⟩ := h
  obtain ⟨_, _, h3⟩ := r.back s r'
  refine ⟨p, vs, rfl, e, RvA.less h3 ds vs n a, ?_, n0, fun i o e1 w z => ?_⟩
  · by_cases w : Own ρ σ p
    · exact unlend_of w
    · rw [unlend_no w]; exact nF
  · have ow : Own ρ σ p := ⟨i, o, e1, w, z⟩
    obtain ⟨_, _, u', e', _⟩ := r.ownF ow
    have := s p u' (by rw [lend_of ow]; exact e')
    rw [nF] at this; cases this
end
end Z

set_option Elab.async false
set_option linter.all false
set_option maxRecDepth 100000
namespace Z
open PySem L2
variable [TabsP]
abbrev DT := En → (R → En → Prop) → Prop
def Kp (ρ ρ' : En) : Prop := ∀ (i : Nat) (o : OV), ρ[i]? = some (some o) → ∃ o', ρ'[i]? = some (some o')
theorem Kp.refl {ρ : En} : Kp ρ ρ := fun _ o e => ⟨o, e⟩
theorem Kp.trans {a b c : En} (h : Kp a b) (g : Kp b c) : Kp a c := fun i o e => let ⟨_, e'⟩ := h i o e; g i _ e'
def Sim (B : Bs) (tE : TE) (t : DT) : Prop := ∀ (F : Hp) (ρ : En) (σ : L2.St) (H : Hp) (P : R → En → Prop) (Q : VK), Rel B F ρ σ H → t ρ P →
    (∀ r v F' ρ' H', Rel B F' ρ' σ H' → Same F F' → Kp ρ ρ' → RvR B F' ρ' σ H' v r → P r ρ' → Q v H') → tE σ H Q
structure DE (X : Cx) (B : Bs) (e : Expr) (tE : TE) (t : DT) : Prop where
  pe : PE X e tE
  sim : Sim B tE t
/-- a new list is frozen where it is no more than a part -/
def fz : R → R
  | .new ds => .dat (.lst ds)
  | r => r
theorem vl_fz {ρ : En} {r : R} : vl ρ (fz r) = vl ρ r := by cases r <;> rfl
theorem var_fz {r : R} : (fz r).isVar = r.isVar := by cases r <;> rfl
section
variable {X : Cx} {B : Bs} {F F' H H' : Hp} {ρ ρ' : En} {σ : L2.St} {v : V} {r : R}
theorem RvR.mono (h : RvR B F ρ σ H v (fz r)) (s : Same F F') (k : Kp ρ ρ') : RvR B F' ρ' σ H' v (fz r) := by
  cases r with
  | dat d => exact Rv.mono h s
  | new ds => exact Rv.mono h s
  | var i =>
    obtain ⟨e, o, w⟩ := h
    exact ⟨e, k i o w⟩
theorem Rel.fz (l : Rel B F ρ σ H) (h : RvR B F ρ σ H v r) : ∃ F', Same F F' ∧ Rel B F' ρ σ H ∧ RvR B F' ρ σ H v (Z.fz r) := by
  cases r with
  | dat d => exact ⟨F, Same.refl _, l, h⟩
  | var i => exact ⟨F, Same.refl _, l, h⟩
  | new ds =>
    obtain ⟨F', s, l', h'⟩ := l.frzL h
    exact ⟨F', s, l', h'⟩
theorem Sim.frz {tE : TE} {t : DT} (h : Sim B tE t) : ∀ (F : Hp) (ρ : En) (σ : L2.St) (H : Hp) (P : R → En → Prop) (Q : VK), Rel B F ρ σ H → t ρ P →
    (∀ r v F' ρ' H', Rel B F' ρ' σ H' → Same F F' → Kp ρ ρ' → RvR B F' ρ' σ H' v (Z.fz r) → P r ρ' → Q v H') → tE σ H Q := by
  refine fun F ρ σ H P Q l w k => h F ρ σ H P Q l w fun r v F' ρ' H' l' s kp rv p => ?_
  obtain ⟨F2, s2, l2, rv2⟩ := l'.fz rv
  exact k r v F2 ρ' H' l2 (s.trans s2) kp rv2 p
end
/-! ## pure operations -/
inductive AllR (B : Bs) (F : Hp) (ρ : En) (σ : L2.St) (H : Hp) : List V → List R → Prop
  | nil : AllR B F ρ σ H [] []
  | cons {v : V} {vs : List V} {r : R} {rs : List R} : RvR B F ρ σ H v (fz r) → AllR B F ρ σ H vs rs → AllR B F ρ σ H (v :: vs) (r :: rs)
def noR : R → Bool
  | .dat d => noL d
  | .new ds => noLA ds
  | .var _ => false
def bOk (rs : List R) (r : R) : Prop := rs.any R.isVar = true → noR r = true
/-- all that a result may bring -/
def Kt (B : Bs) (F : Hp) (ρ : En) (σ : L2.St) (P : R → Prop) (Q : VK) : Prop := ∀ r v F' H', Rel B F' ρ σ H' → Same F F' → RvR B F' ρ σ H' v r → P r → Q v H'
section
variable {X : Cx} {B : Bs} {F F' H H' : Hp} {ρ ρ' : En} {σ : L2.St} {v : V} {r : R}
theorem AllR.mono (s : Same F F') (k : Kp ρ ρ') : ∀ {rs : List R} {vs : List V}, AllR B F ρ σ H vs rs → AllR B F' ρ' σ H' vs rs
  | [], _, h => by cases h; exact .nil
  | r :: rs, _, h => by
    cases h with
    | cons a b => exact .cons (RvR.mono a s k) (AllR.mono s k b)
theorem AllR.lent (l : Rel B F ρ σ H) : ∀ {rs : List R} {vs : List V}, AllR B F ρ σ H vs rs → RvA B.K B.hd (Z.lend F ρ σ H) vs (rs.map (vl ρ))
  | [], _, h => by cases h; exact .nil
  | r :: rs, _, h => by
    cases h with
    | cons a b =>
      have q := l.val a (by intro ds; cases r <;> (intro z; cases z))
      rw [vl_fz] at q
      exact .cons q (AllR.lent l b)
theorem AllR.plain (l : Rel B F ρ σ H) : ∀ {rs : List R} {vs : List V}, rs.any R.isVar = false → AllR B F ρ σ H vs rs → RvA B.K B.hd F vs (rs.map (vl ρ))
  | [], _, _, h => by cases h; exact .nil
  | r :: rs, _, n, h => by
    cases h with
    | cons a b =>
      rw [List.any_cons, Bool.or_eq_false_iff] at n
      refine .cons ?_ (AllR.plain l n.2 b)
      cases r with
      | dat d => exact a
      | new ds => exact a
      | var i => exact absurd n.1 (by show ¬ (true = false); decide)
theorem lendRun {rs : List R} {vs : List V} (l : Rel B F ρ σ H) (hv : AllR B F ρ σ H vs rs) (W : (R → Prop) → Prop) (G : VK → Prop) {P : R → Prop} {Q : VK}
    (core : ∀ F1 ρ1, Rel B F1 ρ1 σ H → Same F F1 → RvA B.K B.hd F1 vs (rs.map (vl ρ)) → ∀ (P' : R → Prop) (Q' : VK), W P' → Kt B F1 ρ1 σ P' Q' → G Q')
    (w : W fun r => bOk rs r ∧ P r) (k : Kt B F ρ σ P Q) : G Q := by
  by_cases hb : rs.any R.isVar = true
  · refine core _ _ l.lend l.lend_same (hv.lent l) _ Q w fun r v F' H' l' s rv ⟨bo, p⟩ => ?_
    obtain ⟨l3, s3, less⟩ := l.back s l'
    refine k r v _ H' l3 s3 ?_ p
    have n := bo hb
    cases r with
    | dat d => exact Rv.less less d v n rv
    | var i => cases n
    | new ds => exact l.backNew s l' rv n
  · exact core F ρ l (Same.refl _) (hv.plain l (by simpa using hb)) _ Q w fun r v F' H' l' s rv ⟨_, p⟩ => k r v F' H' l' s rv p
end
def OpD (B : Bs) (r : R2) (d : D → D → (R → Prop) → Prop) : Prop := ∀ (F : Hp) (ρ : En) (σ : L2.St) (H : Hp) (x y : V) (dx dy : D) (P : R → Prop) (Q : VK), Rel B F ρ σ H → Rv B.K B.hd F x dx → Rv B.K B.hd F y dy → d dx dy P → Kt B F ρ σ P Q → r x y H Q
def UnD (B : Bs) (r : V → Hp → VK → Prop) (d : D → (R → Prop) → Prop) : Prop := ∀ (F : Hp) (ρ : En) (σ : L2.St) (H : Hp) (x : V) (dx : D) (P : R → Prop) (Q : VK), Rel B F ρ σ H → Rv B.K B.hd F x dx → d dx P → Kt B F ρ σ P Q → r x H Q
/-- by a list of arguments -/
def CaD (B : Bs) (r : List V → Hp → VK → Prop) (d : List D → (R → Prop) → Prop) : Prop := ∀ (F : Hp) (ρ : En) (σ : L2.St) (H : Hp) (xs : List V) (ds : List D) (P : R → Prop) (Q : VK), Rel B F ρ σ H → RvA B.K B.hd F xs ds → d ds P → Kt B F ρ σ P Q → r xs H Q
def dBin (d : D → D → (R → Prop) → Prop) (ta tb : DT) : DT := fun ρ P => ta ρ fun r1 ρ1 => tb ρ1 fun r2 ρ2 => d (vl ρ2 r1) (vl ρ2 r2) fun r => bOk [r1, r2] r ∧ P r ρ2
def dUn (d : D → (R → Prop) → Prop) (ta : DT) : DT := fun ρ P => ta ρ fun r1 ρ1 => d (vl ρ1 r1) fun r => bOk [r1] r ∧ P r ρ1
section
variable {X : Cx} {B : Bs} {a b : Expr} {tA tB : TE} {ta tb : DT} {pos : Pos}
theorem opd_run {r : R2} {d : D → D → (R → Prop) → Prop} (hd : OpD B r d) {F H : Hp} {ρ : En} {σ : L2.St} {x y : V} {r1 r2 : R} {P : R → Prop} {Q : VK} (l : Rel B F ρ σ H) (h1 : RvR B F ρ σ H x (fz r1)) (h2 : RvR B F ρ σ H y (fz r2))
    (w : d (vl ρ r1) (vl ρ r2) fun r => bOk [r1, r2] r ∧ P r) (k : Kt B F ρ σ P Q) : r x y H Q := by
  refine lendRun (rs := [r1, r2]) (vs := [x, y]) l (.cons h1 (.cons h2 .nil)) (fun P => d (vl ρ r1) (vl ρ r2) P) (fun Q => r x y H Q) (fun F1 ρ1 l1 _ a P' Q' w' k' => ?_) w k
  cases a with
  | cons a1 a2 =>
    cases a2 with
    | cons a2 _ => exact hd F1 ρ1 σ H x y _ _ P' Q' l1 a1 a2 w' k'
theorem und_run {r : V → Hp → VK → Prop} {d : D → (R → Prop) → Prop} (hd : UnD B r d) {F H : Hp} {ρ : En} {σ : L2.St} {x : V} {r1 : R} {P : R → Prop} {Q : VK} (l : Rel B F ρ σ H) (h1 : RvR B F ρ σ H x (fz r1))
    (w : d (vl ρ r1) fun r => bOk [r1] r ∧ P r) (k : Kt B F ρ σ P Q) : r x H Q := by
  refine lendRun (rs := [r1]) (vs := [x]) l (.cons h1 .nil) (fun P => d (vl ρ r1) P) (fun Q => r x H Q) (fun F1 ρ1 l1 _ a P' Q' w' k' => ?_) w k
  cases a with
  | cons a1 _ => exact hd F1 ρ1 σ H x _ P' Q' l1 a1 w' k'
/-- two parts, one after another -/
theorem two (ha : Sim B tA ta) (hb : Sim B tB tb) : ∀ (F : Hp) (ρ : En) (σ : L2.St) (H : Hp) (P : R → R → En → Prop) (G : V → V → Hp → Prop), Rel B F ρ σ H → (ta ρ fun r1 ρ1 => tb ρ1 fun r2 ρ2 => P r1 r2 ρ2) →
    (∀ r1 r2 x y F' ρ' H', Rel B F' ρ' σ H' → Same F F' → Kp ρ ρ' → RvR B F' ρ' σ H' x (fz r1) → RvR B F' ρ' σ H' y (fz r2) → P r1 r2 ρ' → G x y H') → tA σ H fun x H1 => tB σ H1 fun y H2 => G x y H2 := by
  refine fun F ρ σ H P G l w k => ha.frz F ρ σ H _ _ l w fun r1 x F1 ρ1 H1 l1 s1 k1 rv1 p1 => ?_
  refine hb.frz F1 ρ1 σ H1 _ _ l1 p1 fun r2 y F2 ρ2 H2 l2 s2 k2 rv2 p2 => ?_
  exact k r1 r2 x y F2 ρ2 H2 l2 (s1.trans s2) (k1.trans k2) (RvR.mono rv1 s2 k2) rv2 p2
theorem de_op {op : Operator} {r : R2} {d : D → D → (R → Prop) → Prop} (ho : OpR X (binaryOp op) r) (hd : OpD B r d) (ha : DE X B a tA ta) (hb : DE X B b tB tb) : DE X B (.BinOp a op b pos) (tOp r tA tB) (dBin d ta tb) := by
  have q := two ha.sim hb.sim
  refine ⟨pe_op ho ha.pe hb.pe, fun F ρ σ H P Q l w k => q F ρ σ H _ _ l w fun r1 r2 x y F' ρ' H' l' s kp h1 h2 p => ?_⟩
  exact opd_run hd l' h1 h2 p fun r v F2 H2 l2 s2 rv p => k r v F2 ρ' H2 l2 (s.trans s2) kp rv p
theorem de_cmp {op : CmpOp} {r : R2} {d : D → D → (R → Prop) → Prop} (ho : OpR X (compareOp op) r) (hd : OpD B r d) (ha : DE X B a tA ta) (hb : DE X B b tB tb) (hm : behindInMarks op b = false) : DE X B (.Compare a [op] [b] pos) (tOp r tA tB) (dBin d ta tb) := by
  have q := two ha.sim hb.sim
  refine ⟨pe_cmpR ho ha.pe hb.pe hm, fun F ρ σ H P Q l w k => q F ρ σ H _ _ l w fun r1 r2 x y F' ρ' H' l' s kp h1 h2 p => ?_⟩
  exact opd_run hd l' h1 h2 p fun r v F2 H2 l2 s2 rv p => k r v F2 ρ' H2 l2 (s.trans s2) kp rv p
theorem de_ix {r : R2} {d : D → D → (R → Prop) → Prop} (ho : IxR X r) (hd : OpD B r d) (ha : DE X B a tA ta) (hb : DE X B b tB tb) (hs : PlainIx b) : DE X B (.Subscript a b pos) (tOp r tA tB) (dBin d ta tb) := by
  have q := two ha.sim hb.sim
  refine ⟨pe_ix ho ha.pe hb.pe hs, fun F ρ σ H P Q l w k => q F ρ σ H _ _ l w fun r1 r2 x y F' ρ' H' l' s kp h1 h2 p => ?_⟩
  exact opd_run hd l' h1 h2 p fun r v F2 H2 l2 s2 rv p => k r v F2 ρ' H2 l2 (s.trans s2) kp rv p
theorem de_un {op : UnaryOp} {r : V → Hp → VK → Prop} {d : D → (R → Prop) → Prop} (ho : UnR X (unaryOp op) r) (hd : UnD B r d) (ha : DE X B a tA ta) : DE X B (.UnaryOp op a pos) (tUn r tA) (dUn d ta) := by
  refine ⟨pe_un ho ha.pe, fun F ρ σ H P Q l w k => ha.sim.frz F ρ σ H _ _ l w fun r1 x F' ρ' H' l' s kp h1 p => ?_⟩
  exact und_run hd l' h1 p fun r v F2 H2 l2 s2 rv p => k r v F2 ρ' H2 l2 (s.trans s2) kp rv p
/-! ### names and constants -/
def dVar (i : Nat) : DT := fun ρ P => match ρ[i]? with
  | some (some (.dat d)) => P (.dat d) ρ
  | some (some _) => P (.var i) ρ
  | _ => False
theorem de_var {i : Nat} {e : Expr} (h : PE X e (tVar i)) : DE X B e (tVar i) (dVar i) := by
  refine ⟨h, fun F ρ σ H P Q l w k => ?_⟩
  unfold dVar at w
  cases e1 : ρ[i]? with
  | none => rw [e1] at w; exact w.elim
  | some o =>
    rw [e1] at w
    cases o with
    | none => exact w.elim
    | some o =>
      obtain ⟨v, es, hv⟩ := l.var i o e1
      refine ⟨v, es, ?_⟩
      cases o with
      | dat d => exact k (.dat d) v F ρ H l (Same.refl _) Kp.refl hv w
      | own ds => exact k (.var i) v F ρ H l (Same.refl _) Kp.refl ⟨es, _, e1⟩ w
      | dic ks ds => exact k (.var i) v F ρ H l (Same.refl _) Kp.refl ⟨es, _, e1⟩ w
def dC (d : D) : DT := fun ρ P => P (.dat d) ρ
theorem de_cst {e : Expr} {v : V} {d : D} (h : PE X e (tC v)) (q : ∀ F, Rv B.K B.hd F v d) : DE X B e (tC v) (dC d) :=
  ⟨h, fun F ρ σ H P Q l w k => k (.dat d) v F ρ H l (Same.refl _) Kp.refl (q F) w⟩
theorem de_int {i : Int} {j p} : DE X B (.Constant (.int i) j p) (tC (.int i)) (dC (.int i)) := de_cst pe_int fun _ => .int i
theorem de_bl {b : Bool} {j p} : DE X B (.Constant (.bool b) j p) (tC (.bl b)) (dC (.bl b)) := de_cst pe_bl fun _ => .bl b
theorem de_non {j p} : DE X B (.Constant .none j p) (tC .non) (dC .non) := de_cst pe_non fun _ => .non
theorem de_str {x : Str} {j p} : DE X B (.Constant (.str x) j p) (tC (.str x)) (dC (.str x)) := de_cst pe_str fun _ => .str x
end
/-! ### arguments -/
abbrev DTA := En → (List R → En → Prop) → Prop
def SimA (B : Bs) (tA : TA) (t : DTA) : Prop := ∀ (F : Hp) (ρ : En) (σ : L2.St) (H : Hp) (P : List R → En → Prop) (Q : List V → Hp → Prop), Rel B F ρ σ H → t ρ P →
    (∀ rs vs F' ρ' H', Rel B F' ρ' σ H' → Same F F' → Kp ρ ρ' → AllR B F' ρ' σ H' vs rs → P rs ρ' → Q vs H') → tA σ H Q
structure DA (X : Cx) (B : Bs) (es : List Expr) (tA : TA) (t : DTA) : Prop where
  pe : PA X es tA
  sim : SimA B tA t
def dNil : DTA := fun ρ P => P [] ρ
def dCons (t : DT) (u : DTA) : DTA := fun ρ P => t ρ fun r ρ1 => u ρ1 fun rs ρ2 => P (r :: rs) ρ2
section
variable {X : Cx} {B : Bs} {e : Expr} {es : List Expr} {tE : TE} {tA : TA} {t : DT} {u : DTA}
theorem da_nil : DA X B [] tNil dNil := ⟨pa_nil, fun F ρ σ H P Q l w k => k [] [] F ρ H l (Same.refl _) Kp.refl .nil w⟩
theorem da_cons (h : DE X B e tE t) (g : DA X B es tA u) (hs : starEach (e :: es) X.env = (false, eval e X.env) :: starEach es X.env := by rfl) : DA X B (e :: es) (tCons tE tA) (dCons t u) := by
  refine ⟨pa_cons h.pe g.pe hs, fun F ρ σ H P Q l w k => h.sim.frz F ρ σ H _ _ l w fun r v F1 ρ1 H1 l1 s1 k1 rv p => ?_⟩
  refine g.sim F1 ρ1 σ H1 _ _ l1 p fun rs vs F2 ρ2 H2 l2 s2 k2 a p => ?_
  exact k _ _ F2 ρ2 H2 l2 (s1.trans s2) (k1.trans k2) (.cons (RvR.mono rv s2 k2) a) p
end
/-- a call by values -/
def dCa (d : List D → (R → Prop) → Prop) (u : DTA) : DT := fun ρ P => u ρ fun rs ρ1 => d (rs.map (vl ρ1)) fun r => bOk rs r ∧ P r ρ1
section
variable {X : Cx} {B : Bs} {e : Expr} {es : List Expr} {tA : TA} {u : DTA} {x : Str} {p pos : Pos} {id T : String} {r : List V → Hp → VK → Prop} {d : List D → (R → Prop) → Prop}
theorem cad_run (hd : CaD B r d) {F H : Hp} {ρ : En} {σ : L2.St} {vs : List V} {rs : List R} {P : R → Prop} {Q : VK} (l : Rel B F ρ σ H) (h : AllR B F ρ σ H vs rs)
    (w : d (rs.map (vl ρ)) fun r => bOk rs r ∧ P r) (k : Kt B F ρ σ P Q) : r vs H Q :=
  lendRun l h (fun P => d (rs.map (vl ρ)) P) (fun Q => r vs H Q) (fun F1 ρ1 l1 _ a P' Q' w' k' => hd F1 ρ1 σ H vs _ P' Q' l1 a w' k') w k
theorem de_callB (hc : CallR X (.builtin id) r) (hd : CaD B r d) (hg : Gl X x) (hm : X.mg x = none) (hv : bootBuiltins x = some (.builtin id)) (ha : DA X B (e :: es) tA u) (hn : x ≠ "__name__" := by decide) (hdb : (x == ("__debug__" : Str)) = false := by decide)
    (he : starEach (e :: es) X.env = (false, eval e X.env) :: starEach es X.env := by rfl) (hpl : (backTo pos (starEach es X.env)).any (·.1) = false := by rfl) : DE X B (.Call (.Name x p) (e :: es) [] pos) (tCB r tA) (dCa d u) := by
  refine ⟨pe_callB hc hg hm hv ha.pe hn hdb he hpl, fun F ρ σ H P Q l w k => ha.sim F ρ σ H _ _ l w fun rs vs F' ρ' H' l' s kp al q => ?_⟩
  exact cad_run hd l' al q fun r v F2 H2 l2 s2 rv p => k r v F2 ρ' H2 l2 (s.trans s2) kp rv p
theorem de_callTy (hc : CallR X (.type T) r) (hd : CaD B r d) (hg : Gl X x) (hm : X.mg x = none) (hv : bootBuiltins x = some (.type T)) (ha : DA X B (e :: es) tA u) (hn : x ≠ "__name__" := by decide) (hdb : (x == ("__debug__" : Str)) = false := by decide)
    (he : starEach (e :: es) X.env = (false, eval e X.env) :: starEach es X.env := by rfl) (hpl : (backTo pos (starEach es X.env)).any (·.1) = false := by rfl) : DE X B (.Call (.Name x p) (e :: es) [] pos) (tCB r tA) (dCa d u) := by
  refine ⟨pe_callTy hc hg hm hv ha.pe hn hdb he hpl, fun F ρ σ H P Q l w k => ha.sim F ρ σ H _ _ l w fun rs vs F' ρ' H' l' s kp al q => ?_⟩
  exact cad_run hd l' al q fun r v F2 H2 l2 s2 rv p => k r v F2 ρ' H2 l2 (s.trans s2) kp rv p
end
/-! ### displays -/
def dTup (u : DTA) : DT := fun ρ P => u ρ fun rs ρ1 => rs.length ≤ sizeLine ∧ bOk rs (.dat (.tup (rs.map (vl ρ1)))) ∧ P (.dat (.tup (rs.map (vl ρ1)))) ρ1
def dLst (u : DTA) : DT := fun ρ P => u ρ fun rs ρ1 => rs.length ≤ sizeLine ∧ rs.any R.isVar = false ∧ P (.new (rs.map (vl ρ1))) ρ1
section
variable {X : Cx} {B : Bs} {es : List Expr} {tA : TA} {u : DTA} {pos : Pos}
theorem AllR.len {F H : Hp} {ρ : En} {σ : L2.St} : ∀ {rs : List R} {vs : List V}, AllR B F ρ σ H vs rs → vs.length = rs.length
  | [], _, h => by cases h; rfl
  | _ :: _, _, h => by
    cases h with
    | cons a b => simp [AllR.len b]
theorem de_tup {k : Nat} (h : DA X B es tA u) : DE X B (.Tuple es k pos) (tTup tA) (dTup u) := by
  refine ⟨pe_tup h.pe, fun F ρ σ H P Q l w k => h.sim F ρ σ H _ _ l w fun rs vs F' ρ' H' l' s kp al q => ?_⟩
  refine ⟨by rw [al.len]; exact q.1, fun p np => ?_⟩
  refine lendRun l' al (fun P => P (.dat (.tup (rs.map (vl ρ'))))) (fun Q => Q (.ref p) (upd H' p (.tup vs))) (fun F1 ρ1 l1 _ a P' Q' w' k' => ?_) q.2 fun r v F2 H2 l2 s2 rv p => k r v F2 ρ' H2 l2 (s.trans s2) kp rv p
  obtain ⟨l3, s3⟩ := l1.newF (u := .tup vs) np
  exact k' (.dat (.tup _)) _ _ _ l3 s3 (Rv.tup (SqT.of upd_same) (a.mono s3)) w'
theorem de_lst (h : DA X B es tA u) : DE X B (.List es pos) (tLst tA) (dLst u) := by
  refine ⟨pe_lst h.pe, fun F ρ σ H P Q l w k => h.sim F ρ σ H _ _ l w fun rs vs F' ρ' H' l' s kp al q => ?_⟩
  refine ⟨by rw [al.len]; exact q.1, fun p np => ?_⟩
  obtain ⟨l3, n3⟩ := l'.newL np (al.plain l' q.2.1)
  exact k (.new _) _ F' ρ' _ l3 s kp n3 q.2.2
end
end Z

set_option Elab.async false
set_option linter.all false
set_option maxRecDepth 100000
namespace Z
open PySem L2
variable [TabsP]
/-! ## operators -/
theorem op_or {X : Cx} {f : Value → Value → Sem Value} {r r' : R2} (h : OpR X f r) (g : OpR X f r') : OpR X f (fun x y H Q => r x y H Q ∨ r' x y H Q) := by
  intro pins s σ H x y v u Q I rx ry q
  rcases q with q | q
  · exact h pins s σ H x y v u Q I rx ry q
  · exact g pins s σ H x y v u Q I rx ry q
theorem opd_or1 {B : Bs} {r r' : R2} {d : D → D → (R → Prop) → Prop} (h : OpD B r d) : OpD B (fun x y H Q => r x y H Q ∨ r' x y H Q) d := fun F ρ σ H x y dx dy P Q l a b w k => .inl (h F ρ σ H x y dx dy P Q l a b w k)
theorem opd_or2 {B : Bs} {r r' : R2} {d : D → D → (R → Prop) → Prop} (h : OpD B r' d) : OpD B (fun x y H Q => r x y H Q ∨ r' x y H Q) d := fun F ρ σ H x y dx dy P Q l a b w k => .inr (h F ρ σ H x y dx dy P Q l a b w k)
def dI (C : Int → Int → Prop) (g : Int → Int → D) : D → D → (R → Prop) → Prop
  | .int i, .int j, P => C i j ∧ P (.dat (g i j))
  | _, _, _ => False
def dI0 (g : Int → Int → D) : D → D → (R → Prop) → Prop
  | .int i, .int j, P => P (.dat (g i j))
  | _, _, _ => False
section
variable {B : Bs}
theorem opd_I {C : Int → Int → Prop} {g : Int → Int → Int} : OpD B (rI C fun i j => .int (g i j)) (dI C fun i j => .int (g i j)) := by
  intro F ρ σ H x y dx dy P Q l a b w k
  cases dx <;> cases dy <;> first | exact w.elim | skip
  cases a; cases b
  exact ⟨_, _, rfl, rfl, w.1, k (.dat _) _ F H l (Same.refl _) (.int _) w.2⟩
theorem opd_I0 {g : Int → Int → Int} : OpD B (rI0 fun i j => .int (g i j)) (dI0 fun i j => .int (g i j)) := by
  intro F ρ σ H x y dx dy P Q l a b w k
  cases dx <;> cases dy <;> first | exact w.elim | skip
  cases a; cases b
  exact ⟨_, _, rfl, rfl, k (.dat _) _ F H l (Same.refl _) (.int _) w⟩
theorem opd_B0 {g : Int → Int → Bool} : OpD B (rI0 fun i j => .bl (g i j)) (dI0 fun i j => .bl (g i j)) := by
  intro F ρ σ H x y dx dy P Q l a b w k
  cases dx <;> cases dy <;> first | exact w.elim | skip
  cases a; cases b
  exact ⟨_, _, rfl, rfl, k (.dat _) _ F H l (Same.refl _) (.bl _) w⟩
/-! ### + -/
def dAdd : D → D → (R → Prop) → Prop
  | .int i, .int j, P => P (.dat (.int (i + j)))
  | .tup xs, .tup ys, P => xs.length + ys.length ≤ sizeLine ∧ P (.dat (.tup (xs ++ ys)))
  | .lst xs, .lst ys, P => xs.length + ys.length ≤ sizeLine ∧ P (.new (xs ++ ys))
  | _, _, _ => False
def rAdd (K : PySem.W.Frag) : R2 := fun x y H Q => rI0 (fun i j => .int (i + j)) x y H Q ∨ rCatA K x y H Q ∨ rCat x y H Q
theorem op_addA {X : Cx} (K : PySem.W.Frag) (h : X.K = K := by rfl) : OpR X (binaryOp .Add) (rAdd K) := op_or op_add (op_or (kcatT K h) op_cat)
theorem opd_add : OpD B (rAdd B.K) dAdd := by
  intro F ρ σ H x y dx dy P Q l a b w k
  cases dx <;> cases dy <;> first | exact w.elim | skip
  · cases a; cases b
    exact .inl ⟨_, _, rfl, rfl, k (.dat _) _ F H l (Same.refl _) (.int _) w⟩
  · cases a with
    | lst a1 a2 =>
      cases b with
      | lst b1 b2 =>
        refine .inr (.inr ⟨_, _, _, _, rfl, rfl, l.sub _ _ a1, l.sub _ _ b1, ?_, fun p np => ?_⟩)
        · rw [a2.len, b2.len]; exact w.1
        · obtain ⟨l3, n3⟩ := l.newL np (a2.app b2)
          exact k (.new _) _ _ _ l3 (Same.refl _) n3 w.2
  · cases a with
    | tup a1 a2 =>
      cases b with
      | tup b1 b2 =>
        refine .inr (.inl ⟨_, _, _, _, rfl, rfl, Same.sqT l.sub a1, Same.sqT l.sub b1, ?_, fun e => ?_, fun e1 e2 => ?_, fun e1 e2 p np => ?_⟩)
        · rw [a2.len, b2.len]; exact w.1
        · subst e
          cases a2
          exact k (.dat _) _ F H l (Same.refl _) (.tup b1 b2) w.2
        · subst e2
          cases b2
          have w2 := w.2
          rw [List.append_nil] at w2
          exact k (.dat _) _ F H l (Same.refl _) (.tup a1 a2) w2
        · obtain ⟨l3, s3⟩ := l.newF (u := .tup _) np
          exact k (.dat _) _ _ _ l3 s3 (Rv.tup (SqT.of upd_same) ((a2.app b2).mono s3)) w.2
/-! ### == -/
mutual
def toPy : D → PyData
  | .bl b => .bool b
  | .int i => .int i
  | .str x => .str x
  | .lst ds => .list (toPyA ds)
  | .tup ds => .tuple (toPyA ds)
  | .tpx ds => .tuple (toPyA ds)
  | _ => .none
def toPyA : List D → List PyData
  | [] => []
  | d :: ds => toPy d :: toPyA ds
end
mutual
def pyd : D → Bool
  | .non => true
  | .bl b => true
  | .int i => true
  | .str x => true
  | .lst ds => pydA ds
  | .tup ds => pydA ds
  | .tpx ds => pydA ds
  | _ => false
def pydA : List D → Bool
  | [] => true
  | d :: ds => pyd d && pydA ds
end
mutual
theorem Rv.dp {K : PySem.W.Frag} {hd : Option Addr} {F H : Hp} (s : Same F H) : ∀ (d : D) (v : V), pyd d = true → Rv K hd F v d → Dp K H v (toPy d)
  | .non, _, _, q => by cases q; exact .non
  | .bl b, _, _, q => by cases q; exact .bl b
  | .int i, _, _, q => by cases q; exact .int i
  | .str x, _, _, q => by cases q; exact .str x
  | .lst ds, _, n, q => by
    cases q with
    | lst a b => exact .lst (.of (s _ _ a)) (RvA.dp s ds _ (by simpa [pyd] using n) b)
  | .tup ds, _, n, q => by
    cases q with
    | tup a b => exact .tup (Same.sqT s a) (RvA.dp s ds _ (by simpa [pyd] using n) b)
  | .dct _ ds, _, n, _ => by simp [pyd] at n
  | .obj C ns ds, _, n, _ => by simp [pyd] at n
  | .cls C, _, n, _ => by simp [pyd] at n
  | .hnd, _, n, _ => by simp [pyd] at n
  | .ty _, _, n, _ => by simp [pyd] at n
  | .tpx ds, _, n, q => by
    cases q with
    | tpx a e b => exact .tup (.inl (.inr ⟨_, s _ _ a⟩)) (RvA.dp s ds _ (by simpa [pyd] using n) b)
theorem RvA.dp {K : PySem.W.Frag} {hd : Option Addr} {F H : Hp} (s : Same F H) : ∀ (ds : List D) (vs : List V), pydA ds = true → RvA K hd F vs ds → DpAll K H vs (toPyA ds)
  | [], _, _, q => by cases q; exact .nil
  | d :: ds, _, n, q => by
    simp [pydA] at n
    cases q with
    | cons a b => exact .cons (Rv.dp s d _ n.1 a) (RvA.dp s ds _ n.2 b)
end
def eqD (a b : D) : Bool := PyData.eqv (toPy a) (toPy b)
def shp (d : D) : Bool := pyd d && SeqAt.shaped (toPy d)
def dEq (neg : Bool) (a b : D) (P : R → Prop) : Prop := shp a = true ∧ shp b = true ∧ P (.dat (.bl (if neg then !eqD a b else eqD a b)))
theorem opd_eq : OpD B (rEqD B.K) (dEq false) := by
  intro F ρ σ H x y dx dy P Q l a b w k
  obtain ⟨w1, w2, w3⟩ := w
  unfold shp at w1 w2
  rw [Bool.and_eq_true] at w1 w2
  exact ⟨_, _, Rv.dp l.sub _ _ w1.1 a, Rv.dp l.sub _ _ w2.1 b, w1.2, w2.2, k (.dat _) _ F H l (Same.refl _) (.bl _) w3⟩
theorem opd_ne : OpD B (rNeD B.K) (dEq true) := by
  intro F ρ σ H x y dx dy P Q l a b w k
  obtain ⟨w1, w2, w3⟩ := w
  unfold shp at w1 w2
  rw [Bool.and_eq_true] at w1 w2
  exact ⟨_, _, Rv.dp l.sub _ _ w1.1 a, Rv.dp l.sub _ _ w2.1 b, w1.2, w2.2, k (.dat _) _ F H l (Same.refl _) (.bl _) w3⟩
/-! ### is None, is True -/
def dIsN (neg : Bool) : D → D → (R → Prop) → Prop
  | .non, .non, P => P (.dat (.bl (!neg)))
  | _, .non, P => P (.dat (.bl neg))
  | _, _, _ => False
theorem opd_isN : OpD B (fun x y H Q => y = .non ∧ Q (.bl (decide (x = .non))) H) (dIsN false) := by
  intro F ρ σ H x y dx dy P Q l a b w k
  cases dy <;> first | (cases dx <;> exact w.elim) | skip
  cases b
  refine ⟨rfl, ?_⟩
  cases dx <;> (cases a; exact k (.dat _) _ F H l (Same.refl _) (.bl _) w)
theorem opd_notN : OpD B (fun x y H Q => y = .non ∧ Q (.bl (!decide (x = .non))) H) (dIsN true) := by
  intro F ρ σ H x y dx dy P Q l a b w k
  cases dy <;> first | (cases dx <;> exact w.elim) | skip
  cases b
  refine ⟨rfl, ?_⟩
  cases dx <;> (cases a; exact k (.dat _) _ F H l (Same.refl _) (.bl _) w)
def dIsB : D → D → (R → Prop) → Prop
  | .bl a, .bl b, P => P (.dat (.bl (decide (a = b))))
  | _, _, _ => False
theorem opd_isB : OpD B (fun x y H Q => ∃ a b, x = .bl a ∧ y = .bl b ∧ Q (.bl (decide (a = b))) H) dIsB := by
  intro F ρ σ H x y dx dy P Q l a b w k
  cases dx <;> cases dy <;> first | exact w.elim | skip
  cases a; cases b
  exact ⟨_, _, rfl, rfl, k (.dat _) _ F H l (Same.refl _) (.bl _) w⟩
/-! ### in -/
def flatD : D → Bool
  | .non => true
  | .bl _ => true
  | .int _ => true
  | .str _ => true
  | _ => false
def vOf : D → V
  | .bl b => .bl b
  | .int i => .int i
  | .str x => .str x
  | _ => .non
theorem Rv.flat {K : PySem.W.Frag} {hd : Option Addr} {F : Hp} {d : D} {v : V} (h : Rv K hd F v d) (f : flatD d = true) : v = vOf d ∧ flatV v = true := by
  cases h <;> first | exact ⟨rfl, rfl⟩ | cases f
theorem RvA.flat {K : PySem.W.Frag} {hd : Option Addr} {F : Hp} : ∀ {ds : List D} {vs : List V}, RvA K hd F vs ds → ds.all flatD = true → vs = ds.map vOf ∧ vs.all flatV = true
  | [], _, h, _ => by cases h; exact ⟨rfl, rfl⟩
  | d :: ds, _, h, f => by
    cases h with
    | cons a b =>
      rw [List.all_cons, Bool.and_eq_true] at f
      obtain ⟨e1, e2⟩ := Rv.flat a f.1
      obtain ⟨e3, e4⟩ := RvA.flat b f.2
      exact ⟨by rw [e1, e3]; rfl, by rw [List.all_cons, e2, e4]; rfl⟩
def seqOfD : D → Option (List D)
  | .lst ds => some ds
  | .tup ds => some ds
  | .tpx ds => some ds
  | _ => none
theorem Rv.seq {F H : Hp} (s : Same F H) {d : D} {v : V} {ds : List D} (h : Rv B.K B.hd F v d) (e : seqOfD d = some ds) : ∃ p ys, v = .ref p ∧ (SqL B.K H p ys ∨ SqT B.K H p ys) ∧ RvA B.K B.hd F ys ds := by
  cases d <;> first | cases e | skip
  · cases h with
    | lst a b => exact ⟨_, _, rfl, .inl (.of (s _ _ a)), b⟩
  · cases h with
    | tup a b => exact ⟨_, _, rfl, .inr (Same.sqT s a), b⟩
  · cases h with
    | tpx a e b => exact ⟨_, _, rfl, .inr (.inl (.inr ⟨_, s _ _ a⟩)), b⟩
def inD (a : D) (ds : List D) : Bool := inV (vOf a) (ds.map vOf)
def dIn (neg : Bool) (a b : D) (P : R → Prop) : Prop := match seqOfD b with
  | some ds => flatD a = true ∧ ds.all flatD = true ∧ P (.dat (.bl (if neg then !inD a ds else inD a ds)))
  | none => False
theorem opd_in {neg : Bool} : OpD B (rIn B.K neg) (dIn neg) := by
  intro F ρ σ H x y dx dy P Q l a b w k
  unfold dIn at w
  cases e : seqOfD dy with
  | none => rw [e] at w; exact w.elim
  | some ds =>
    rw [e] at w
    obtain ⟨w1, w2, w3⟩ := w
    obtain ⟨p, ys, rfl, hq, ha⟩ := b.seq l.sub e
    obtain ⟨rfl, f1⟩ := a.flat w1
    obtain ⟨rfl, f2⟩ := ha.flat w2
    exact ⟨p, _, rfl, hq, f1, f2, k (.dat _) _ F H l (Same.refl _) (.bl _) w3⟩
/-! ### xs[i] -/
def dIx (a b : D) (P : R → Prop) : Prop := match seqOfD a, b with
  | some ds, .int i => ∃ d, atI ds i = some d ∧ P (.dat d)
  | _, _ => False
theorem RvA.atI {K : PySem.W.Frag} {hd : Option Addr} {F : Hp} {ds : List D} {vs : List V} {i : Int} {d : D} (h : RvA K hd F vs ds) (e : atI ds i = some d) : ∃ v, L2.atI vs i = some v ∧ Rv K hd F v d := by
  unfold L2.atI at e ⊢
  rw [h.len]
  cases q : ixN ds.length i with
  | none => rw [q] at e; cases e
  | some j =>
    rw [q] at e
    exact h.get' e
theorem opd_ix : OpD B (rIx B.K) dIx := by
  intro F ρ σ H x y dx dy P Q l a b w k
  unfold dIx at w
  cases e : seqOfD dx with
  | none => rw [e] at w; exact w.elim
  | some ds =>
    rw [e] at w
    cases dy <;> first | exact w.elim | skip
    cases b
    obtain ⟨d, w1, w2⟩ := w
    obtain ⟨p, ys, rfl, hq, ha⟩ := a.seq l.sub e
    obtain ⟨v, e1, e2⟩ := ha.atI w1
    have q := k (.dat d) v F H l (Same.refl _) e2 w2
    rcases hq with hq | hq
    · exact .inl ⟨p, ys, _, v, rfl, rfl, hq, e1, q⟩
    · exact .inr (.inl ⟨p, ys, _, v, rfl, rfl, hq, e1, q⟩)
/-! ### -x -/
def dNeg : D → (R → Prop) → Prop
  | .int i, P => P (.dat (.int (-i)))
  | _, _ => False
theorem und_neg : UnD B (rU fun i => .int (-i)) dNeg := by
  intro F ρ σ H x dx P Q l a w k
  cases dx <;> first | exact w.elim | skip
  cases a
  exact ⟨_, rfl, k (.dat _) _ F H l (Same.refl _) (.int _) w⟩
/-! ### built-ins by values -/
def dLen : List D → (R → Prop) → Prop
  | [a], P => match seqOfD a with
    | some ds => P (.dat (.int ds.length))
    | none => False
  | _, _ => False
theorem RvA.one {K : PySem.W.Frag} {hd : Option Addr} {F : Hp} {vs : List V} {d : D} (h : RvA K hd F vs [d]) : ∃ v, vs = [v] ∧ Rv K hd F v d := by
  cases h with
  | cons a b =>
    cases b
    exact ⟨_, rfl, a⟩
theorem cad_len : CaD B (rLenQ B.K) dLen := by
  intro F ρ σ H xs ds P Q l a w k
  match ds, w with
  | [d], w =>
    obtain ⟨v, rfl, r⟩ := a.one
    unfold dLen at w
    cases e : seqOfD d with
    | none => simp only [e] at w
    | some es =>
      simp only [e] at w
      obtain ⟨p, ys, rfl, hq, ha⟩ := r.seq l.sub e
      refine ⟨p, ys, rfl, hq, ?_⟩
      rw [ha.len]
      exact k (.dat _) _ F H l (Same.refl _) (.int _) w
def dList : List D → (R → Prop) → Prop
  | [a], P => match seqOfD a with
    | some ds => P (.new ds)
    | none => False
  | _, _ => False
theorem cad_list : CaD B (rListQ B.K) dList := by
  intro F ρ σ H xs ds P Q l a w k
  match ds, w with
  | [d], w =>
    obtain ⟨v, rfl, r⟩ := a.one
    unfold dList at w
    cases e : seqOfD d with
    | none => simp only [e] at w
    | some es =>
      simp only [e] at w
      obtain ⟨p, ys, rfl, hq, ha⟩ := r.seq l.sub e
      refine ⟨p, ys, rfl, hq, fun q nq => ?_⟩
      obtain ⟨l3, n3⟩ := l.newL nq ha
      exact k (.new _) _ F _ l3 (Same.refl _) n3 w
def tupOfD : D → Option D
  | .lst ds => some (.tup ds)
  | .tup ds => some (.tup ds)
  | .tpx ds => some (.tpx ds)
  | _ => none
def dTuple : List D → (R → Prop) → Prop
  | [a], P => match tupOfD a with
    | some d => P (.dat d)
    | none => False
  | _, _ => False
theorem cad_tuple : CaD B (rTupQ B.K) dTuple := by
  intro F ρ σ H xs ds P Q l a w k
  match ds, w with
  | [d], w =>
    obtain ⟨v, rfl, r⟩ := a.one
    cases d <;> first | exact w.elim | skip
    · cases r with
      | lst a1 a2 =>
        refine ⟨_, _, rfl, .inl ⟨.of (l.sub _ _ a1), fun q nq => ?_⟩⟩
        obtain ⟨l3, s3⟩ := l.newF (u := .tup _) nq
        exact k (.dat (.tup _)) _ _ _ l3 s3 (Rv.tup (SqT.of upd_same) (a2.mono s3)) w
    · cases r with
      | tup a1 a2 => exact ⟨_, _, rfl, .inr ⟨Same.sqT l.sub a1, k (.dat (.tup _)) _ F H l (Same.refl _) (Rv.tup a1 a2) w⟩⟩
    · cases r with
      | tpx a1 e1 a2 => exact ⟨_, _, rfl, .inr ⟨.inl (.inr ⟨_, l.sub _ _ a1⟩), k (.dat (.tpx _)) _ F H l (Same.refl _) (Rv.tpx a1 e1 a2) w⟩⟩
end
end Z

set_option Elab.async false
set_option linter.all false
set_option maxRecDepth 100000
namespace Z
open PySem L2
variable [TabsP]
/-! ## tests -/
abbrev DBT := En → (Bool → En → Prop) → Prop
def SimB (B : Bs) (tT : TT) (t : DBT) : Prop := ∀ (F : Hp) (ρ : En) (σ : L2.St) (H : Hp) (P : Bool → En → Prop) (Q : Bool → Hp → Prop), Rel B F ρ σ H → t ρ P →
    (∀ b F' ρ' H', Rel B F' ρ' σ H' → Same F F' → Kp ρ ρ' → P b ρ' → Q b H') → tT σ H Q
structure DTs (X : Cx) (B : Bs) (e : Expr) (tT : TT) (t : DBT) : Prop where
  pt : PT X e tT
  sim : SimB B tT t
structure DWs (X : Cx) (B : Bs) (e : Expr) (tT : TT) (t : DBT) : Prop where
  pw : PW X e tT
  sim : SimB B tT t
/-- a value that is a bool -/
def dTB (t : DT) : DBT := fun ρ P => t ρ fun r ρ1 => match r with
  | .dat (.bl c) => P c ρ1
  | _ => False
section
variable {X : Cx} {B : Bs} {a b c e : Expr} {rest : List Expr} {tA tB tC' : TE} {ta tb tc : DT} {tT tU : TT} {u u' : DBT} {pos : Pos}
theorem Sim.tst (h : Sim B tA ta) : SimB B (fun σ H Q => tA σ H fun x H1 => ∃ c, x = .bl c ∧ Q c H1) (dTB ta) := by
  intro F ρ σ H P Q l w k
  refine h F ρ σ H _ _ l w fun r v F' ρ' H' l' s kp rv p => ?_
  match r, p with
  | .dat (.bl c), p =>
    cases rv
    exact ⟨c, rfl, k c F' ρ' H' l' s kp p⟩
theorem dt_val (h : DE X B e tA ta) (he : ∀ whole, isTrue e X.env whole = (do let v ← whole; standAt e.pos; holding [v] (truthy v)) := by intro _; rfl) : DTs X B e (L2.tB tA) (dTB ta) := ⟨pt_val h.pe he, h.sim.tst⟩
theorem dt_cmp {op : CmpOp} {r : R2} {d : D → D → (R → Prop) → Prop} (ho : OpR X (compareOp op) r) (hd : OpD B r d) (ha : DE X B a tA ta) (hb : DE X B b tB tb) (hm : behindInMarks op b = false) : DTs X B (.Compare a [op] [b] pos) (tTest (tOp r tA tB)) (dTB (dBin d ta tb)) :=
  ⟨pt_cmpR ho ha.pe hb.pe hm, Sim.tst (de_cmp (X := X) (pos := pos) ho hd ha hb hm).sim⟩
/-! ### truth -/
def truD : D → Option Bool
  | .non => some false
  | .bl b => some b
  | .int i => some (i != 0)
  | .lst ds => some (!ds.isEmpty)
  | .tup ds => some (!ds.isEmpty)
  | .tpx ds => some (!ds.isEmpty)
  | .dct ks _ => some (!ks.isEmpty)
  | _ => none
def dTru (d : D) (P : R → Prop) : Prop := match truD d with
  | some b => P (.dat (.bl b))
  | none => False
theorem isEmpty_rv {K : PySem.W.Frag} {hd : Option Addr} {F : Hp} {ds : List D} {vs : List V} (h : RvA K hd F vs ds) : vs.isEmpty = ds.isEmpty := by
  have := h.len
  cases vs <;> cases ds <;> first | rfl | (simp at this)
theorem und_tru (g : Bool → Bool) : UnD B (fun x H Q => ∃ k, TruV B.K x H k ∧ Q (.bl (g k)) H) fun d P => match truD d with
  | some b => P (.dat (.bl (g b)))
  | none => False := by
  intro F ρ σ H x dx P Q l a w k
  have fin : ∀ b, TruV B.K x H b → truD dx = some b → ∃ k, TruV B.K x H k ∧ Q (.bl (g k)) H := fun b h e => by
    rw [e] at w
    exact ⟨b, h, k (.dat _) _ F H l (Same.refl _) (.bl _) w⟩
  cases dx <;> first | exact w.elim | skip
  · cases a; exact fin _ rfl rfl
  · cases a; exact fin _ rfl rfl
  · cases a; exact fin _ rfl rfl
  · cases a with
    | lst a1 a2 => exact fin _ (.inl ⟨_, .of (l.sub _ _ a1), by rw [isEmpty_rv a2]⟩) rfl
  · cases a with
    | tup a1 a2 => exact fin _ (.inr (.inl ⟨_, Same.sqT l.sub a1, by rw [isEmpty_rv a2]⟩)) rfl
  · cases a with
    | @dct _ kv _ _ a1 a2 a3 =>
      refine fin _ (.inr (.inr ⟨_, l.sub _ _ a1, ?_⟩)) rfl
      subst a2
      cases kv <;> rfl
  · cases a with
    | tpx a1 e1 a2 => exact fin _ (.inr (.inl ⟨_, .inl (.inr ⟨_, l.sub _ _ a1⟩), by rw [isEmpty_rv a2]⟩)) rfl
def dTT (ta : DT) : DBT := fun ρ P => ta ρ fun r ρ1 => match truD (vl ρ1 r) with
  | some b => P b ρ1
  | none => False
theorem dt_truth (K : PySem.W.Frag) (h : DE X B e tA ta) (he : ∀ whole, isTrue e X.env whole = (do let v ← whole; standAt e.pos; holding [v] (truthy v)) := by intro _; rfl) (hK : X.K = B.K := by rfl) (hB : B.K = K := by rfl) : DTs X B e (tTruQ K tA) (dTT ta) := by
  subst hB
  refine ⟨kt_truth B.K h.pe he hK, fun F ρ σ H P Q l w k => h.sim.frz F ρ σ H _ _ l w fun r v F' ρ' H' l' s kp rv p => ?_⟩
  have q := und_run (B := B) (Q := fun x H2 => ∃ c, x = .bl c ∧ Q c H2) (P := fun r => ∃ c, r = .dat (.bl c) ∧ P c ρ') (und_tru id) l' rv (by
    show match truD (vl ρ' r) with
      | some b => _
      | none => False
    cases e1 : truD (vl ρ' r) with
    | none => simp only [e1] at p
    | some b =>
      simp only [e1] at p
      exact ⟨fun _ => rfl, b, rfl, p⟩) (fun r v F2 H2 l2 s2 rv2 ⟨c, e, p2⟩ => by
    subst e
    cases rv2
    exact ⟨c, rfl, k c F2 ρ' H2 l2 (s.trans s2) kp p2⟩)
  obtain ⟨b, h1, c, e, h2⟩ := q
  cases e
  exact ⟨b, h1, h2⟩
def dNotT (ta : DT) : DT := fun ρ P => ta ρ fun r ρ1 => match truD (vl ρ1 r) with
  | some b => P (.dat (.bl (!b))) ρ1
  | none => False
theorem de_notT (K : PySem.W.Frag) (h : DE X B a tA ta) (hK : X.K = B.K := by rfl) (hB : B.K = K := by rfl) : DE X B (.UnaryOp .Not a pos) (tNotT K tA) (dNotT ta) := by
  subst hB
  refine ⟨by rw [← hK]; exact pe_notT h.pe, fun F ρ σ H P Q l w k => h.sim.frz F ρ σ H _ _ l w fun r v F' ρ' H' l' s kp rv p => ?_⟩
  refine und_run (B := B) (P := fun r => P r ρ') (und_tru fun b => !b) l' rv (by
    show match truD (vl ρ' r) with
      | some b => _
      | none => False
    cases e1 : truD (vl ρ' r) with
    | none => simp only [e1] at p
    | some b =>
      simp only [e1] at p
      exact ⟨fun _ => rfl, p⟩) (fun r v F2 H2 l2 s2 rv2 p2 => k r v F2 ρ' H2 l2 (s.trans s2) kp rv2 p2)
/-! ### and, or, not -/
def dAnd (t u : DBT) : DBT := fun ρ P => t ρ fun c ρ1 => if c = true then u ρ1 P else P false ρ1
def dOr (t u : DBT) : DBT := fun ρ P => t ρ fun c ρ1 => if c = true then P true ρ1 else u ρ1 P
def dNot (t : DBT) : DBT := fun ρ P => t ρ fun c ρ1 => P (!c) ρ1
theorem dw_and1 (h : DTs X B a tT u) : DWs X B (.BoolOp .And [a] pos) tT u := ⟨pw_and1 h.pt, h.sim⟩
theorem dw_or1 (h : DTs X B a tT u) : DWs X B (.BoolOp .Or [a] pos) tT u := ⟨pw_or1 h.pt, h.sim⟩
theorem dw_and (h : DTs X B a tT u) (g : DWs X B (.BoolOp .And (b :: rest) pos) tU u') : DWs X B (.BoolOp .And (a :: b :: rest) pos) (tAnd tT tU) (dAnd u u') := by
  refine ⟨pw_and h.pt g.pw, fun F ρ σ H P Q l w k => h.sim F ρ σ H _ _ l w fun c F' ρ' H' l' s kp p => ?_⟩
  cases c with
  | true => exact g.sim F' ρ' σ H' P Q l' p fun b F2 ρ2 H2 l2 s2 kp2 p2 => k b F2 ρ2 H2 l2 (s.trans s2) (kp.trans kp2) p2
  | false => exact k false F' ρ' H' l' s kp p
theorem dw_or (h : DTs X B a tT u) (g : DWs X B (.BoolOp .Or (b :: rest) pos) tU u') : DWs X B (.BoolOp .Or (a :: b :: rest) pos) (tOr tT tU) (dOr u u') := by
  refine ⟨pw_or h.pt g.pw, fun F ρ σ H P Q l w k => h.sim F ρ σ H _ _ l w fun c F' ρ' H' l' s kp p => ?_⟩
  cases c with
  | false => exact g.sim F' ρ' σ H' P Q l' p fun b F2 ρ2 H2 l2 s2 kp2 p2 => k b F2 ρ2 H2 l2 (s.trans s2) (kp.trans kp2) p2
  | true => exact k true F' ρ' H' l' s kp p
theorem DWs.ts (h : DWs X B e tT u) : DTs X B e tT u := ⟨h.pw.pt, h.sim⟩
theorem dt_not (h : DTs X B a tT u) : DTs X B (.UnaryOp .Not a pos) (tNot tT) (dNot u) :=
  ⟨pt_not h.pt, fun F ρ σ H P Q l w k => h.sim F ρ σ H _ _ l w fun c F' ρ' H' l' s kp p => k (!c) F' ρ' H' l' s kp p⟩
/-- as values -/
def dAndV (ta tb : DT) : DT := fun ρ P => ta ρ fun r ρ1 => match r with
  | .dat (.bl c) => if c = true then tb ρ1 P else P (.dat (.bl false)) ρ1
  | _ => False
def dOrV (ta tb : DT) : DT := fun ρ P => ta ρ fun r ρ1 => match r with
  | .dat (.bl c) => if c = true then P (.dat (.bl true)) ρ1 else tb ρ1 P
  | _ => False
theorem de_one {op : BoolOp} (h : DE X B a tA ta) : DE X B (.BoolOp op [a] pos) tA ta := ⟨pe_one h.pe, h.sim⟩
theorem de_and (h : DE X B a tA ta) (g : DE X B (.BoolOp .And (b :: rest) pos) tB tb) : DE X B (.BoolOp .And (a :: b :: rest) pos) (tAndV tA tB) (dAndV ta tb) := by
  refine ⟨pe_and h.pe g.pe, fun F ρ σ H P Q l w k => h.sim F ρ σ H _ _ l w fun r v F' ρ' H' l' s kp rv p => ?_⟩
  match r, p with
  | .dat (.bl c), p =>
    cases rv
    refine ⟨c, rfl, ?_⟩
    cases c with
    | true => exact g.sim F' ρ' σ H' P Q l' p fun r v F2 ρ2 H2 l2 s2 kp2 rv2 p2 => k r v F2 ρ2 H2 l2 (s.trans s2) (kp.trans kp2) rv2 p2
    | false => exact k (.dat (.bl false)) _ F' ρ' H' l' s kp (.bl _) p
theorem de_or (h : DE X B a tA ta) (g : DE X B (.BoolOp .Or (b :: rest) pos) tB tb) : DE X B (.BoolOp .Or (a :: b :: rest) pos) (tOrV tA tB) (dOrV ta tb) := by
  refine ⟨pe_or h.pe g.pe, fun F ρ σ H P Q l w k => h.sim F ρ σ H _ _ l w fun r v F' ρ' H' l' s kp rv p => ?_⟩
  match r, p with
  | .dat (.bl c), p =>
    cases rv
    refine ⟨c, rfl, ?_⟩
    cases c with
    | false => exact g.sim F' ρ' σ H' P Q l' p fun r v F2 ρ2 H2 l2 s2 kp2 rv2 p2 => k r v F2 ρ2 H2 l2 (s.trans s2) (kp.trans kp2) rv2 p2
    | true => exact k (.dat (.bl true)) _ F' ρ' H' l' s kp (.bl _) p
def dIfE (t : DBT) (ta tb : DT) : DT := fun ρ P => t ρ fun c ρ1 => if c = true then ta ρ1 P else tb ρ1 P
theorem de_ifExp (hc : DTs X B c tT u) (h : DE X B a tA ta) (g : DE X B b tB tb) : DE X B (.IfExp c a b pos) (tIf tT tA tB) (dIfE u ta tb) := by
  refine ⟨pe_ifExp hc.pt h.pe g.pe, fun F ρ σ H P Q l w k => hc.sim F ρ σ H _ _ l w fun c F' ρ' H' l' s kp p => ?_⟩
  cases c with
  | true => exact h.sim F' ρ' σ H' P Q l' p fun r v F2 ρ2 H2 l2 s2 kp2 rv2 p2 => k r v F2 ρ2 H2 l2 (s.trans s2) (kp.trans kp2) rv2 p2
  | false => exact g.sim F' ρ' σ H' P Q l' p fun r v F2 ρ2 H2 l2 s2 kp2 rv2 p2 => k r v F2 ρ2 H2 l2 (s.trans s2) (kp.trans kp2) rv2 p2
/-! ### isinstance of a built-in type, of a couple of them -/
inductive Ty5 where
  | B | I | S | L | T
def Ty5.nm : Ty5 → String
  | .B => "bool" | .I => "int" | .S => "str" | .L => "list" | .T => "tuple"
def isT5 : Ty5 → D → Bool
  | .B, .bl _ => true
  | .I, .bl _ => true
  | .I, .int _ => true
  | .S, .str _ => true
  | .L, .lst _ => true
  | .T, .tup _ => true
  | .T, .tpx _ => true
  | _, _ => false
def plainD : D → Bool
  | .non => true | .bl _ => true | .int _ => true | .str _ => true | .lst _ => true | .tup _ => true | .tpx _ => true | .dct _ _ => true
  | _ => false
def pyOf : D → PyData
  | .bl b => .bool b | .int i => .int i | .str x => .str x | .lst _ => .list [] | .tup _ => .tuple [] | .tpx _ => .tuple [] | .dct _ _ => .dict [] | _ => .none
theorem ty_of_rv {F H : Hp} (s : Same F H) {d : D} {v : V} (h : Rv B.K B.hd F v d) (p : plainD d = true) : TyX B.K H v (.type (tyN (pyOf d))) := by
  cases d <;> first | cases p | skip
  · cases h; exact .base .non
  · cases h; exact .base (.bl _)
  · cases h; exact .base (.int _)
  · cases h; exact .base (.str _)
  · cases h with
    | lst a _ => exact .base (.lst (s _ _ a))
  · cases h with
    | tup a _ =>
      rcases a with (a | ⟨o, a⟩) | ⟨o, its, n, k, c, _⟩
      · exact .base (.tup (s _ _ a))
      · exact .fTuple (s _ _ a)
      · exact .kTuple k c
  · cases h with
    | dct a _ _ => exact .base (.dK (s _ _ a))
  · cases h with
    | tpx a _ _ => exact .fTuple (s _ _ a)
theorem kb5 (τ : Ty5) (d : D) : kitB (tyN (pyOf d)) τ.nm = some (isT5 τ d) := by
  cases τ
  · refine (kb_bool (pyOf d)).trans ?_
    cases d <;> rfl
  · refine (kb_int (pyOf d)).trans ?_
    cases d <;> rfl
  · refine (kb_str (pyOf d)).trans ?_
    cases d <;> rfl
  · refine (kb_list (pyOf d)).trans ?_
    cases d <;> rfl
  · refine (kb_tuple (pyOf d)).trans ?_
    cases d <;> rfl
def isiD (g : D → Bool) (d : D) (P : R → Prop) : Prop := plainD d = true ∧ P (.dat (.bl (g d)))
theorem und_isi (τ : Ty5) : UnD B (fun x H Q => rIsi B.K [x, .ty τ.nm] H Q) (isiD (isT5 τ)) := by
  intro F ρ σ H x dx P Q l a w k
  exact ⟨_, _, _, _, _, rfl, .ty _, ty_of_rv l.sub a w.1, kit_ty (kb5 τ dx), k (.dat _) _ F H l (Same.refl _) (.bl _) w.2⟩
theorem de_isi (K : PySem.W.Frag) (τ : Ty5) {ce : Expr} {p : Pos} (hg : Gl X "isinstance") (hm : X.mg "isinstance" = none) (h : DE X B e tA ta) (hc : PE X ce (tC (.ty τ.nm))) (hK : X.K = B.K := by rfl) (hB : B.K = K := by rfl)
    (he : starEach [e, ce] X.env = (false, eval e X.env) :: starEach [ce] X.env := by rfl) (he2 : starEach [ce] X.env = (false, eval ce X.env) :: starEach [] X.env := by rfl) (hpl : (backTo pos (starEach [ce] X.env)).any (·.1) = false := by rfl) :
    DE X B (.Call (.Name "isinstance" p) [e, ce] [] pos) (tCB (rIsi K) (tCons tA (tCons (tC (.ty τ.nm)) tNil))) (dUn (isiD (isT5 τ)) ta) := by
  subst hB
  refine ⟨pe_callB (kisi B.K hK) hg hm (by decide +kernel) (pa_cons h.pe (pa_cons hc pa_nil he2) he) (by decide) (by decide) he hpl, fun F ρ σ H P Q l w k => h.sim.frz F ρ σ H _ _ l w fun r v F' ρ' H' l' s kp rv p => ?_⟩
  exact und_run (und_isi τ) l' rv p fun r v F2 H2 l2 s2 rv p => k r v F2 ρ' H2 l2 (s.trans s2) kp rv p
/-- isinstance(e, (list, tuple)) -/
def isLT : D → Bool
  | .lst _ => true
  | .tup _ => true
  | .tpx _ => true
  | _ => false
theorem de_isiLT (K : PySem.W.Frag) {c1 c2 : Expr} {n : Nat} {p p2 : Pos} (hg : Gl X "isinstance") (hm : X.mg "isinstance" = none) (h : DE X B e tA ta) (h1 : PE X c1 (tC (.ty "list"))) (h2 : PE X c2 (tC (.ty "tuple"))) (hK : X.K = B.K := by rfl) (hB : B.K = K := by rfl)
    (he : starEach [e, .Tuple [c1, c2] n p2] X.env = (false, eval e X.env) :: starEach [.Tuple [c1, c2] n p2] X.env := by rfl) (he2 : starEach [.Tuple [c1, c2] n p2] X.env = (false, eval (.Tuple [c1, c2] n p2) X.env) :: starEach [] X.env := by rfl)
    (he3 : starEach [c1, c2] X.env = (false, eval c1 X.env) :: starEach [c2] X.env := by rfl) (he4 : starEach [c2] X.env = (false, eval c2 X.env) :: starEach [] X.env := by rfl) (hpl : (backTo pos (starEach [.Tuple [c1, c2] n p2] X.env)).any (·.1) = false := by rfl) :
    DE X B (.Call (.Name "isinstance" p) [e, .Tuple [c1, c2] n p2] [] pos) (tCB (rIsiT K) (tCons tA (tCons (tTup (tCons (tC (.ty "list")) (tCons (tC (.ty "tuple")) tNil))) tNil))) (dUn (isiD isLT) ta) := by
  subst hB
  refine ⟨pe_callB (kisiT B.K hK) hg hm (by decide +kernel) (pa_cons h.pe (pa_cons (pe_tup (pa_cons h1 (pa_cons h2 pa_nil he4) he3)) pa_nil he2) he) (by decide) (by decide) he hpl, fun F ρ σ H P Q l w k => h.sim.frz F ρ σ H _ _ l w fun r v F' ρ' H' l' s kp rv p => ?_⟩
  refine ⟨by show 2 ≤ sizeLine; decide, fun q nq => ?_⟩
  have l3 := l'.newO (u := .tup [.ty "list", .ty "tuple"]) nq
  refine und_run (B := B) (r := fun x H Q => H q = some (.tup [.ty "list", .ty "tuple"]) → rIsiT B.K [x, .ref q] H Q) (d := isiD isLT) (P := fun r => P r ρ') (fun F ρ σ H x dx P Q l a w k e => ?_) l3 ?_ p (fun r v F2 H2 l2 s2 rv p => k r v F2 ρ' H2 l2 (s.trans s2) kp rv p) upd_same
  · have kb := ka_seq (K := B.K) (kb_list (pyOf dx)) (kb_tuple (pyOf dx))
    have eb : (isL (pyOf dx) || isT (pyOf dx)) = isLT dx := by cases dx <;> rfl
    rw [eb] at kb
    exact ⟨_, _, _, _, _, _, rfl, e, .cons (.ty _) (.cons (.ty _) .nil), ty_of_rv l.sub a w.1, kb, k (.dat _) _ F H l (Same.refl _) (.bl _) w.2⟩
  · cases r with
    | dat d => exact rv
    | new ds => exact rv
    | var i => exact rv
/-! ### list(range(..)), tuple(range(..)) -/
def rgD (a b : Int) : List D := (List.range (b - a).toNat).map fun i => D.int (a + (i : Nat))
theorem rvA_rg {K : PySem.W.Frag} {hd : Option Addr} {F : Hp} (a b : Int) : RvA K hd F (rgV a b) (rgD a b) := by
  unfold rgV rgD
  have h : ∀ l : List Nat, RvA K hd F (l.map fun i => V.int (a + (i : Nat))) (l.map fun i => D.int (a + (i : Nat))) := by
    intro l
    induction l with
    | nil => exact .nil
    | cons x l ih => exact .cons (.int _) ih
  exact h _
abbrev DRT := En → (Int → Int → En → Prop) → Prop
structure DRg (X : Cx) (B : Bs) (e : Expr) (tR : L2.St → Hp → (Int → Int → Hp → Prop) → Prop) (t : DRT) : Prop where
  pr : PRg X e tR
  sim : ∀ (F : Hp) (ρ : En) (σ : L2.St) (H : Hp) (P : Int → Int → En → Prop) (Q : Int → Int → Hp → Prop), Rel B F ρ σ H → t ρ P →
    (∀ i j F' ρ' H', Rel B F' ρ' σ H' → Same F F' → Kp ρ ρ' → P i j ρ' → Q i j H') → tR σ H Q
def dRg1 (ta : DT) : DRT := fun ρ P => ta ρ fun r ρ1 => match r with
  | .dat (.int n) => P 0 n ρ1
  | _ => False
def dRg2 (ta tb : DT) : DRT := fun ρ P => ta ρ fun r ρ1 => tb ρ1 fun r2 ρ2 => match r, r2 with
  | .dat (.int m), .dat (.int n) => P m n ρ2
  | _, _ => False
theorem drg_1 {p : Pos} (hg : Gl X "range") (hm : X.mg "range" = none) (h : DE X B a tA ta) (na : starEach [a] X.env = (false, eval a X.env) :: starEach [] X.env := by rfl) : DRg X B (.Call (.Name "range" p) [a] [] pos) (tRg1 tA) (dRg1 ta) := by
  refine ⟨prg_1 hg hm h.pe na, fun F ρ σ H P Q l w k => h.sim F ρ σ H _ _ l w fun r v F' ρ' H' l' s kp rv p => ?_⟩
  match r, p with
  | .dat (.int n), p =>
    cases rv
    exact ⟨n, rfl, k 0 n F' ρ' H' l' s kp p⟩
theorem drg_2 {p : Pos} (hg : Gl X "range") (hm : X.mg "range" = none) (h : DE X B a tA ta) (g : DE X B b tB tb) (na : starEach [a, b] X.env = (false, eval a X.env) :: starEach [b] X.env := by rfl)
    (nb : starEach [b] X.env = (false, eval b X.env) :: starEach [] X.env := by rfl) (hp : (backTo pos (starEach [b] X.env)).any (·.1) = false := by rfl) : DRg X B (.Call (.Name "range" p) [a, b] [] pos) (tRg2 tA tB) (dRg2 ta tb) := by
  refine ⟨prg_2 hg hm h.pe g.pe na nb hp, fun F ρ σ H P Q l w k => two h.sim g.sim F ρ σ H _ _ l w fun r1 r2 x y F' ρ' H' l' s kp rv1 rv2 p => ?_⟩
  match r1, r2, p with
  | .dat (.int m), .dat (.int n), p =>
    cases rv1
    cases rv2
    exact ⟨m, n, rfl, rfl, k m n F' ρ' H' l' s kp p⟩
variable {tR : L2.St → Hp → (Int → Int → Hp → Prop) → Prop} {tr : DRT}
def dListRg (t : DRT) : DT := fun ρ P => t ρ fun i j ρ1 => RgOk i j ∧ P (.new (rgD i j)) ρ1
def dTupRg (t : DRT) : DT := fun ρ P => t ρ fun i j ρ1 => RgOk i j ∧ P (.dat (.tup (rgD i j))) ρ1
theorem de_listRg {p : Pos} (hc : X.calm = true) (hg : Gl X "list") (hm : X.mg "list" = none) (h : DRg X B e tR tr) (na : starEach [e] X.env = (false, eval e X.env) :: starEach [] X.env := by rfl) : DE X B (.Call (.Name "list" p) [e] [] pos) (tLstRg tR) (dListRg tr) := by
  refine ⟨pe_listRg hc hg hm h.pr na, fun F ρ σ H P Q l w k => h.sim F ρ σ H _ _ l w fun i j F' ρ' H' l' s kp p => ⟨p.1, fun q nq => ?_⟩⟩
  obtain ⟨l3, n3⟩ := l'.newL nq (rvA_rg i j)
  exact k (.new _) _ F' ρ' _ l3 s kp n3 p.2
theorem de_tupRg {p : Pos} (hc : X.calm = true) (hg : Gl X "tuple") (hm : X.mg "tuple" = none) (h : DRg X B e tR tr) (na : starEach [e] X.env = (false, eval e X.env) :: starEach [] X.env := by rfl) : DE X B (.Call (.Name "tuple" p) [e] [] pos) (tTupRg tR) (dTupRg tr) := by
  refine ⟨pe_tupRg hc hg hm h.pr na, fun F ρ σ H P Q l w k => h.sim F ρ σ H _ _ l w fun i j F' ρ' H' l' s kp p => ⟨p.1, fun q nq => ?_⟩⟩
  obtain ⟨l3, s3⟩ := l'.newF (u := .tup (rgV i j)) nq
  exact k (.dat _) _ _ ρ' _ l3 (s.trans s3) kp (Rv.tup (SqT.of upd_same) (rvA_rg i j)) p.2
/-! ### slices -/
abbrev DOT := En → (Option Int → En → Prop) → Prop
structure DO (X : Cx) (B : Bs) (e : Option Expr) (tO : TO) (t : DOT) : Prop where
  po : PO X e tO
  sim : ∀ (F : Hp) (ρ : En) (σ : L2.St) (H : Hp) (P : Option Int → En → Prop) (Q : Option Int → Hp → Prop), Rel B F ρ σ H → t ρ P →
    (∀ i F' ρ' H', Rel B F' ρ' σ H' → Same F F' → Kp ρ ρ' → P i ρ' → Q i H') → tO σ H Q
def dONone : DOT := fun ρ P => P none ρ
def dOSome (t : DT) : DOT := fun ρ P => t ρ fun r ρ1 => match r with
  | .dat (.int n) => P (some n) ρ1
  | _ => False
theorem do_none : DO X B none tNoPart dONone := ⟨po_none, fun F ρ σ H P Q l w k => k none F ρ H l (Same.refl _) Kp.refl w⟩
theorem do_some (h : DE X B e tA ta) : DO X B (some e) (tPart tA) (dOSome ta) := by
  refine ⟨po_some h.pe, fun F ρ σ H P Q l w k => h.sim F ρ σ H _ _ l w fun r v F' ρ' H' l' s kp rv p => ?_⟩
  match r, p with
  | .dat (.int n), p =>
    cases rv
    exact ⟨n, rfl, k (some n) F' ρ' H' l' s kp p⟩
def cutD (xs : List D) (lo hi : Option Int) : List D := (xs.drop (HT.sIx xs.length 0 lo)).take (HT.sIx xs.length xs.length hi - HT.sIx xs.length 0 lo)
def rSlQ (K : PySem.W.Frag) : V → Option Int → Option Int → Hp → VK → Prop := fun x lo hi H Q => rSlL K x lo hi H Q ∨ rSlA K x lo hi H Q
theorem ksl_seq (K : PySem.W.Frag) (h : X.K = K := by rfl) : L2.SlR X (rSlQ K) := L2.SlR.or (ksl_list K h) (ksl_tup K h)
def dSlv (lo hi : Option Int) : D → (R → Prop) → Prop
  | .lst ds, P => P (.new (cutD ds lo hi))
  | .tup ds, P => P (.dat (.tup (cutD ds lo hi)))
  | .tpx ds, P => P (.dat (.tup (cutD ds lo hi)))
  | _, _ => False
theorem RvA.cut {K : PySem.W.Frag} {hd : Option Addr} {F : Hp} {ds : List D} {vs : List V} (h : RvA K hd F vs ds) (lo hi : Option Int) : RvA K hd F (cutV vs lo hi) (cutD ds lo hi) := by
  unfold cutV cutD
  rw [h.len]
  exact (h.drop _).take _
theorem und_sl {lo hi : Option Int} : UnD B (fun x H Q => rSlQ B.K x lo hi H Q) (dSlv lo hi) := by
  intro F ρ σ H x dx P Q l a w k
  have tupc : ∀ {ds : List D} (a0 : Addr) (xs : List V), SqT B.K F a0 xs → RvA B.K B.hd F xs ds → P (.dat (.tup (cutD ds lo hi))) → rSlQ B.K (.ref a0) lo hi H Q := fun {ds} a0 xs a1 a2 w => by
    refine .inr ⟨_, _, rfl, Same.sqT l.sub a1, fun e => ?_, fun _ p np => ?_⟩
    · have e2 : cutD ds lo hi = ds := by
        unfold cutD
        rw [← a2.len, e.1, e.2, List.drop_zero, Nat.sub_zero, a2.len, List.take_length]
      rw [e2] at w
      exact k (.dat _) _ F H l (Same.refl _) (Rv.tup a1 a2) w
    · obtain ⟨l3, s3⟩ := l.newF (u := .tup (cutV xs lo hi)) np
      exact k (.dat _) _ _ _ l3 s3 (Rv.tup (SqT.of upd_same) ((a2.cut lo hi).mono s3)) w
  cases dx <;> first | exact w.elim | skip
  · cases a with
    | lst a1 a2 =>
      refine .inl ⟨_, _, rfl, .of (l.sub _ _ a1), fun p np => ?_⟩
      obtain ⟨l3, n3⟩ := l.newL np (a2.cut lo hi)
      exact k (.new _) _ F _ l3 (Same.refl _) n3 w
  · rename_i ds
    cases a with
    | @tup a0 xs _ a1 a2 => exact tupc _ _ a1 a2 w
  · rename_i ds
    cases a with
    | tpx a1 e1 a2 => exact tupc _ _ (.inl (.inr ⟨_, a1⟩)) a2 w
def dSl (ta : DT) (tl th : DOT) : DT := fun ρ P => ta ρ fun r ρ1 => tl ρ1 fun lo ρ2 => th ρ2 fun hi ρ3 => dSlv lo hi (vl ρ3 r) fun x => bOk [r] x ∧ P x ρ3
theorem de_slice (K : PySem.W.Frag) {lo hi : Option Expr} {tL tH : TO} {tl th : DOT} {p2 : Pos} (h : DE X B e tA ta) (hl : DO X B lo tL tl) (hh : DO X B hi tH th) (hK : X.K = B.K := by rfl) (hB : B.K = K := by rfl) : DE X B (.Subscript e (.Slice lo hi none p2) pos) (tSl (rSlQ K) tA tL tH) (dSl ta tl th) := by
  subst hB
  refine ⟨pe_slice (ksl_seq B.K hK) h.pe hl.po hh.po, fun F ρ σ H P Q l w k => h.sim.frz F ρ σ H _ _ l w fun r v F1 ρ1 H1 l1 s1 k1 rv p => ?_⟩
  refine hl.sim F1 ρ1 σ H1 _ _ l1 p fun i F2 ρ2 H2 l2 s2 k2 p => ?_
  refine hh.sim F2 ρ2 σ H2 _ _ l2 p fun j F3 ρ3 H3 l3 s3 k3 p => ?_
  exact und_run und_sl l3 (RvR.mono rv (s2.trans s3) (k2.trans k3)) p fun r v F' H' l' s rv p => k r v F' ρ3 H' l' (s1.trans (s2.trans (s3.trans s))) (k1.trans (k2.trans k3)) rv p
end
end Z

set_option Elab.async false
set_option linter.all false
set_option maxRecDepth 100000
namespace Z
open PySem L2
variable [TabsP]
/-! ## names change -/
section
variable {B : Bs} {F F' H H' : Hp} {ρ ρ' : En} {σ : L2.St}
theorem Rel.frzAt (r : Rel B F ρ σ H) {p : Addr} {u : HO} (e : H p = some u) (n : F p = none) (n0 : NoO B.H0 p) (ne : ∀ (i : Nat) (o : OV), ρ[i]? = some (some o) → o.isOwn = true → σ[i]? ≠ some (some (V.ref p))) (ut : ∀ ps, u ≠ .tbl ps := by intro ps z; cases z) : Rel B (upd F p u) ρ σ H ∧ Same F (upd F p u) := by
  have s : Same F (upd F p u) := same_new n
  have nt' : ∀ b ps, L2.upd F p u b ≠ some (.tbl ps) := fun b ps z => by
    by_cases hb : b = p
    · subst hb
      rw [upd_same] at z
      cases z
      exact ut ps rfl
    · rw [upd_ne hb] at z
      exact r.sb.nt b ps z
  refine ⟨⟨r.len, ⟨fun b o q => ?_, nt', r.sb.tb⟩, r.fro.trans s, fun b hb => ?_, r.kept, fun q z => ?_, fun i o z => ?_, r.ap⟩, s⟩
  · by_cases hb : b = p
    · subst hb
      rw [upd_same] at q
      cases q
      exact e
    · rw [upd_ne hb] at q
      exact r.sub _ _ q
  · by_cases hb' : b = p
    · subst hb'
      exact .inr n0
    · rw [upd_ne hb'] at hb
      exact r.new b hb
  · obtain ⟨h1, h2, h3⟩ := r.hnd q z
    refine ⟨h1, ?_, h3⟩
    rw [upd_ne (fun w => h3 (by rw [w]; exact n0))]
    exact h2
  · obtain ⟨v, e1, h⟩ := r.var i o z
    refine ⟨v, e1, h.mono s fun q u' ev w hq => ⟨hq, ?_⟩⟩
    subst ev
    obtain ⟨p', u', e', _, n', _⟩ := h.own w
    cases e'
    rw [upd_ne (fun w2 => ne i o z w (by rw [e1, w2]))]
    exact n'
theorem get_set {α : Type} {l : List α} {i j : Nat} {x y : α} (h : (l.set i x)[j]? = some y) : (j = i ∧ y = x ∧ i < l.length) ∨ (j ≠ i ∧ l[j]? = some y) := by
  by_cases e : j = i
  · subst e
    by_cases hl : j < l.length
    · rw [List.getElem?_set_self hl] at h
      exact .inl ⟨rfl, (Option.some.inj h).symm, hl⟩
    · rw [List.getElem?_eq_none (by rw [List.length_set]; omega)] at h
      cases h
  · rw [List.getElem?_set_ne (Ne.symm e)] at h
    exact .inr ⟨e, h⟩
/-- a slot's new value -/
theorem Rel.set (r : Rel B F ρ σ H) {i : Nat} {v : V} {o : OV} (h : RvO B F H v o) (ne : o.isOwn = true → ∀ (j : Nat) (o' : OV), ρ[j]? = some (some o') → o'.isOwn = true → σ[j]? ≠ some (some v)) : Rel B F (ρ.set i (some o)) (σ.set i (some v)) H := by
  refine ⟨by rw [List.length_set, List.length_set]; exact r.len, r.sb, r.fro, r.new, r.kept, r.hnd, fun j o' e => ?_, fun j k o1 o2 w e1 e2 w1 w2 s1 s2 => ?_⟩
  · rcases get_set e with ⟨rfl, e', hl⟩ | ⟨hj, e'⟩
    · cases e'
      exact ⟨v, by rw [List.getElem?_set_self (by rw [← r.len]; exact hl)], h⟩
    · obtain ⟨w, s1, h1⟩ := r.var j o' e'
      exact ⟨w, by rw [List.getElem?_set_ne (Ne.symm hj)]; exact s1, h1⟩
  · rcases get_set e1 with ⟨rfl, q1, l1⟩ | ⟨n1, q1⟩ <;> rcases get_set e2 with ⟨rfl, q2, l2⟩ | ⟨n2, q2⟩
    · rfl
    · cases q1
      rw [List.getElem?_set_self (by rw [← r.len]; exact l1)] at s1
      cases s1
      rw [List.getElem?_set_ne (Ne.symm n2)] at s2
      exact absurd s2 (ne w1 k o2 q2 w2)
    · cases q2
      rw [List.getElem?_set_self (by rw [← r.len]; exact l2)] at s2
      cases s2
      rw [List.getElem?_set_ne (Ne.symm n1)] at s1
      exact absurd s1 (ne w2 j o1 q1 w1)
    · rw [List.getElem?_set_ne (Ne.symm n1)] at s1
      rw [List.getElem?_set_ne (Ne.symm n2)] at s2
      exact r.ap j k o1 o2 w q1 q2 w1 w2 s1 s2
/-- a slot is looked at otherwise (no store) -/
theorem Rel.see (r : Rel B F ρ σ H) {i : Nat} {v : V} {d : D} (e : σ[i]? = some (some v)) (h : Rv B.K B.hd F v d) : Rel B F (ρ.set i (some (.dat d))) σ H := by
  have q := r.set (i := i) (o := .dat d) h (fun z => by cases z)
  have e2 : σ.set i (some v) = σ := by
    refine List.ext_getElem? fun j => ?_
    by_cases hj : j = i
    · subst hj
      have hl := (List.getElem?_eq_some_iff.mp e).1
      rw [List.getElem?_set_self hl, e]
    · rw [List.getElem?_set_ne (Ne.symm hj)]
  rw [e2] at q
  exact q
theorem Rel.drop (r : Rel B F ρ σ H) (i : Nat) : Rel B F (ρ.set i none) σ H := by
  refine ⟨by rw [List.length_set]; exact r.len, r.sb, r.fro, r.new, r.kept, r.hnd, fun j o' e => ?_, fun j k o1 o2 w e1 e2 w1 w2 s1 s2 => ?_⟩
  · rcases get_set e with ⟨rfl, e', hl⟩ | ⟨hj, e'⟩
    · cases e'
    · exact r.var j o' e'
  · rcases get_set e1 with ⟨rfl, q1, l1⟩ | ⟨n1, q1⟩
    · cases q1
    · rcases get_set e2 with ⟨rfl, q2, l2⟩ | ⟨n2, q2⟩
      · cases q2
      · exact r.ap j k o1 o2 w q1 q2 w1 w2 s1 s2
/-- what a name has is given away: its list is frozen -/
def mvE (ρ : En) (r : R) : En := match r with
  | .var i => ρ.set i (some (.dat (vl ρ r)))
  | _ => ρ
theorem set_none_some {α : Type} {l : List α} {i : Nat} {x y : α} : (l.set i x).set i y = l.set i y := List.set_set x
theorem Kp.mv {r : R} : Kp ρ (mvE ρ r) := by
  cases r with
  | dat d => exact Kp.refl
  | new ds => exact Kp.refl
  | var i =>
    intro j o e
    by_cases h : j = i
    · subst h
      exact ⟨_, List.getElem?_set_self (List.getElem?_eq_some_iff.mp e).1⟩
    · refine ⟨o, ?_⟩
      show (ρ.set i _)[j]? = _
      rw [List.getElem?_set_ne (Ne.symm h)]
      exact e
theorem Rel.mv (l : Rel B F ρ σ H) {v : V} {r : R} (h : RvR B F ρ σ H v (Z.fz r)) : ∃ F', Same F F' ∧ Rel B F' (mvE ρ r) σ H ∧ Rv B.K B.hd F' v (vl ρ r) := by
  cases r with
  | dat d => exact ⟨F, Same.refl _, l, h⟩
  | new ds => exact ⟨F, Same.refl _, l, h⟩
  | var i =>
    obtain ⟨es, o, e⟩ := h
    have ev : vl ρ (.var i) = o.frz := by
      show (match ρ[i]? with | some (some o) => o.frz | _ => D.non) = _
      rw [e]
    show ∃ F', Same F F' ∧ Rel B F' (ρ.set i (some (.dat (vl ρ (.var i))))) σ H ∧ Rv B.K B.hd F' v (vl ρ (.var i))
    rw [ev]
    obtain ⟨v', e1, hv⟩ := l.var i o e
    rw [es] at e1
    cases e1
    cases o with
    | dat d => exact ⟨F, Same.refl _, l.see es hv, hv⟩
    | own ds =>
      obtain ⟨p, vs, rfl, h1, h2, h3, h4⟩ := hv
      obtain ⟨l2, s2⟩ := (l.drop i).frzAt h1 h3 h4 fun j o' ej w z => by
        rcases get_set ej with ⟨rfl, q, _⟩ | ⟨hj, q⟩
        · cases q
        · exact hj (l.ap j i o' _ _ q e w rfl z es)
      have hr : Rv B.K B.hd (upd F p (.lst vs)) (.ref p) (.lst ds) := .lst upd_same (h2.mono s2)
      have := l2.see es hr
      rw [set_none_some] at this
      exact ⟨_, s2, this, hr⟩
    | dic ks ds =>
      obtain ⟨p, kv, rfl, h1, h1', h2, h3, h4⟩ := hv
      obtain ⟨l2, s2⟩ := (l.drop i).frzAt h1 h3 h4 fun j o' ej w z => by
        rcases get_set ej with ⟨rfl, q, _⟩ | ⟨hj, q⟩
        · cases q
        · exact hj (l.ap j i o' _ _ q e w rfl z es)
      have hr : Rv B.K B.hd (upd F p (.dK kv)) (.ref p) (.dct ks ds) := .dct upd_same h1' (h2.mono s2)
      have := l2.see es hr
      rw [set_none_some] at this
      exact ⟨_, s2, this, hr⟩
/-- an object that nothing knows of changes -/
theorem Rel.upd (r : Rel B F ρ σ H) {p : Addr} {u : HO} (n : F p = none) (n0 : NoO B.H0 p) (ne : ∀ (i : Nat) (o : OV), ρ[i]? = some (some o) → o.isOwn = true → σ[i]? ≠ some (some (V.ref p))) (pt : ∀ w, H p = some w → KeepT w) : Rel B F ρ σ (L2.upd H p u) := by
  have off : ∀ b o, F b = some o → b ≠ p := fun b o e z => by rw [z, n] at e; cases e
  refine ⟨r.len, ⟨fun b o e => by rw [upd_ne (off b o e)]; exact r.sub _ _ e, r.sb.nt, tabs_upd r.sb.tb pt⟩, r.fro, r.new, fun b o e w t => ?_, fun q e => ?_, fun i o e => ?_, r.ap⟩
  · rw [upd_ne (fun z => t (n0 o (by rw [← z]; exact e)))]
    exact r.kept b o e w t
  · obtain ⟨h1, h2, h3⟩ := r.hnd q e
    refine ⟨?_, h2, h3⟩
    exact h1.off (fun z => h3 (by rw [← z]; exact n0)) fun z => B.a0 q e (by rw [← z]; exact n0)
  · obtain ⟨v, e1, h⟩ := r.var i o e
    refine ⟨v, e1, h.mono (Same.refl _) fun q u' ev w hq => ⟨?_, ?_⟩⟩
    · subst ev
      rw [upd_ne (fun z => ne i o e w (by rw [e1, z]))]
      exact hq
    · subst ev
      obtain ⟨p', u', e', _, n', _⟩ := h.own w
      cases e'
      exact n'
end
/-! ## what a for, a comprehension walks -/
structure WalkD (B : Bs) (J : It) (ds : List D) (F : Hp) : Prop where
  ex : ∃ (G : Hp → Prop) (Y : Nat → Hp → V → Hp → Prop), Walk J ds.length G Y ∧ (∀ {F0 H0 : Hp} {a0 : ∀ p, B.md = some p → ¬ NoO H0 p.2} F2 ρ σ H2, Rel ⟨B.K, B.md, F0, H0, a0⟩ F2 ρ σ H2 → Same F F2 → G H2) ∧
    ∀ {F0 H0 : Hp} {a0 : ∀ p, B.md = some p → ¬ NoO H0 p.2} i F2 ρ σ H2 x H3, Rel ⟨B.K, B.md, F0, H0, a0⟩ F2 ρ σ H2 → Same F F2 → i < ds.length → Y i H2 x H3 → ∃ d F3, ds[i]? = some d ∧ Rel ⟨B.K, B.md, F0, H0, a0⟩ F3 ρ σ H3 ∧ Same F2 F3 ∧ Rv B.K B.hd F3 x d ∧ Same H2 H3 ∧ ∀ b, F3 b ≠ none → F2 b ≠ none ∨ H2 b = none
abbrev DIT := En → (List D → En → Prop) → Prop
def SimI (B : Bs) (wi : TI) (t : DIT) : Prop := ∀ (F : Hp) (ρ : En) (σ : L2.St) (H : Hp) (P : List D → En → Prop) (R : It → Hp → Prop), Rel B F ρ σ H → t ρ P →
    (∀ J ds F' ρ' H', Rel B F' ρ' σ H' → Same F F' → Kp ρ ρ' → WalkD B J ds F' → P ds ρ' → R J H') → wi σ H R
structure DI (X : Cx) (B : Bs) (tg iter : Expr) (wi : TI) (t : DIT) : Prop where
  pi : PI X tg iter wi
  sim : SimI B wi t
def dSeq (ta : DT) : DIT := fun ρ P => ta ρ fun r ρ1 => match seqOfD (vl ρ1 r) with
  | some ds => P ds (mvE ρ1 r)
  | none => False
section
variable {X : Cx} {B : Bs} {tg e e2 : Expr} {tE tE2 : TE} {te te2 : DT}
theorem walkD_list {F : Hp} {a : Addr} {vs : List V} {ds : List D} (h : F a = some (.lst vs)) (ha : RvA B.K B.hd F vs ds) : WalkD B (Itl B.K a) ds F := by
  refine ⟨_, _, by rw [← ha.len]; exact walk_list (K := B.K) (a := a) (xs := vs), fun F2 ρ σ H2 l s => SqL.of (l.sub _ _ (s _ _ h)), fun i F2 ρ σ H2 x H3 l s hi y => ?_⟩
  obtain ⟨rfl, e⟩ := y
  obtain ⟨d, e1, e2⟩ := ha.get e
  exact ⟨d, F2, e1, l, Same.refl _, e2.mono s, Same.refl _, fun b hb => .inl hb⟩
theorem walkD_tup {F : Hp} {a : Addr} {vs : List V} {ds : List D} (h : SqT B.K F a vs) (ha : RvA B.K B.hd F vs ds) : WalkD B (Itt B.K a) ds F := by
  refine ⟨_, _, by rw [← ha.len]; exact walk_tup (K := B.K) (a := a) (xs := vs), fun F2 ρ σ H2 l s => Same.sqT l.sub (Same.sqT s h), fun i F2 ρ σ H2 x H3 l s hi y => ?_⟩
  obtain ⟨rfl, e⟩ := y
  obtain ⟨d, e1, e2⟩ := ha.get e
  exact ⟨d, F2, e1, l, Same.refl _, e2.mono s, Same.refl _, fun b hb => .inl hb⟩
/-- a list or a tuple is walked, whichever comes -/
def iSeqB (K : PySem.W.Frag) (tl : TE) : TI := fun σ H R => tl σ H fun x H1 => (∃ a xs, x = .ref a ∧ SqL K H1 a xs ∧ R (Itl K a) H1) ∨ (∃ a xs, x = .ref a ∧ SqT K H1 a xs ∧ R (Itt K a) H1)
theorem pi_seqB {l : Expr} {tl : TE} (K : PySem.W.Frag) (hl : PE X l tl) (hK : X.K = K) : PI X tg l (iSeqB K tl) := by
  subst hK
  constructor
  intro pins s σ H R J hw
  apply thn (hl.run pins s σ H _ J hw)
  rintro v s1 ⟨x, H1, J1, rv, ⟨a, xs, rfl, hq, q⟩ | ⟨a, xs, rfl, hq, q⟩⟩
  · cases rv
    obtain ⟨its, vv, pl, _⟩ := J1.list hq
    apply wpAny_pyIter_list pl.isList
    exact ⟨_, [s1.heap.objs.size], _, _, H1, rfl, J1.kept (t' := s1.toks) (fun _ _ e => Heap.get?_push_of_some _ e), turn_list a _, ⟨_, Heap.get?_push_size _ rfl, rfl, rfl⟩,
      fun b hb => by rw [List.mem_singleton.mp hb]; exact J1.fpOk (Nat.le_refl _) (J1.hok.fresh (Nat.le_refl _)), q⟩
  · cases rv
    obtain ⟨its, vv, pl, _⟩ := J1.tuple hq
    apply wpAny_pyIter_tuple (show s1.heap.IsTuple a its.toArray from pl)
    exact ⟨_, [s1.heap.objs.size], _, _, H1, rfl, J1.kept (t' := s1.toks) (fun _ _ e => Heap.get?_push_of_some _ e), turn_tuple a _, ⟨_, Heap.get?_push_size _ rfl, rfl, rfl⟩,
      fun b hb => by rw [List.mem_singleton.mp hb]; exact J1.fpOk (Nat.le_refl _) (J1.hok.fresh (Nat.le_refl _)), q⟩
theorem di_seq (K : PySem.W.Frag) (h : DE X B e tE te) (hK : X.K = B.K := by rfl) (hB : B.K = K := by rfl) : DI X B tg e (iSeqB K tE) (dSeq te) := by
  subst hB
  refine ⟨pi_seqB B.K h.pe hK, fun F ρ σ H P R l w k => h.sim.frz F ρ σ H _ _ l w fun r v F' ρ' H' l' s kp rv p => ?_⟩
  obtain ⟨F2, s2, l2, v2⟩ := l'.mv rv
  cases e1 : seqOfD (vl ρ' r) with
  | none => rw [e1] at p; exact p.elim
  | some ds =>
    rw [e1] at p
    cases ev : vl ρ' r <;> rw [ev] at e1 v2 <;> first | cases e1 | skip
    · cases v2 with
      | lst a1 a2 => exact .inl ⟨_, _, rfl, .of (l2.sub _ _ a1), k _ _ F2 _ H' l2 (s.trans s2) (kp.trans Kp.mv) (walkD_list a1 a2) p⟩
    · cases v2 with
      | tup a1 a2 => exact .inr ⟨_, _, rfl, Same.sqT l2.sub a1, k _ _ F2 _ H' l2 (s.trans s2) (kp.trans Kp.mv) (walkD_tup a1 a2) p⟩
    · cases v2 with
      | tpx a1 e9 a2 => exact .inr ⟨_, _, rfl, .inl (.inr ⟨_, l2.sub _ _ a1⟩), k _ _ F2 _ H' l2 (s.trans s2) (kp.trans Kp.mv) (walkD_tup (.inl (.inr ⟨_, a1⟩)) a2) p⟩
/-! ### range -/
theorem rg0 (n : Int) : rgD 0 n = rgD 0 (0 + (n.toNat : Nat)) := by unfold rgD; rw [show (n - 0).toNat = ((0 : Int) + (n.toNat : Nat) - 0).toNat by omega]
theorem walkD_range {F : Hp} {lo hi : Int} {n : Nat} (e : n = (hi - lo).toNat) : WalkD B (Itr lo n) (rgD lo hi) F := by
  have hlen : (rgD lo hi).length = n := by unfold rgD; rw [List.length_map, List.length_range, e]
  refine ⟨_, _, by rw [hlen]; exact walk_range (lo := lo) (n := n), fun _ _ _ _ _ _ => trivial, fun i F2 ρ σ H2 x H3 l s hi y => ?_⟩
  obtain ⟨rfl, rfl⟩ := y
  rw [hlen] at hi
  refine ⟨.int (lo + i), F2, ?_, l, Same.refl _, .int _, Same.refl _, fun b hb => .inl hb⟩
  unfold rgD
  rw [List.getElem?_map, List.getElem?_range (by omega)]
  rfl
def R62 (i : Int) : Prop := -(2 ^ 62) ≤ i ∧ i < 2 ^ 62
def dRange (t : DRT) : DIT := fun ρ P => t ρ fun i j ρ1 => R62 i ∧ R62 j ∧ P (rgD i j) ρ1
theorem di_range1 {p pos : Pos} (hg : Gl X "range") (hm : X.mg "range" = none) (h : DE X B e tE te) (h1 : starEach [e] X.env = (false, eval e X.env) :: starEach [] X.env := by rfl) (hs : starEach [e] X.env = [(false, eval e X.env)] := by rfl) :
    DI X B tg (.Call (.Name "range" p) [e] [] pos) (iRng1 (tCons tE tNil)) (dRange (dRg1 te)) := by
  refine ⟨pi_range1 hg hm (pa_cons h.pe pa_nil h1) hs, fun F ρ σ H P R l w k => h.sim F ρ σ H _ _ l w fun r v F' ρ' H' l' s kp rv p => ?_⟩
  match r, p with
  | .dat (.int n), p =>
    cases rv
    exact ⟨n, rfl, p.2.1.1, p.2.1.2, k _ _ F' ρ' H' l' s kp (walkD_range (by omega)) p.2.2⟩
theorem di_range2 {p pos : Pos} (hg : Gl X "range") (hm : X.mg "range" = none) (h : DE X B e tE te) (g : DE X B e2 tE2 te2) (h1 : starEach [e, e2] X.env = (false, eval e X.env) :: starEach [e2] X.env := by rfl) (h2 : starEach [e2] X.env = (false, eval e2 X.env) :: starEach [] X.env := by rfl)
    (hs : starEach [e, e2] X.env = [(false, eval e X.env), (false, eval e2 X.env)] := by rfl) (hs2 : starEach [e2] X.env = [(false, eval e2 X.env)] := by rfl) :
    DI X B tg (.Call (.Name "range" p) [e, e2] [] pos) (iRng2 (tCons tE (tCons tE2 tNil))) (dRange (dRg2 te te2)) := by
  refine ⟨pi_range2 hg hm (pa_cons h.pe (pa_cons g.pe pa_nil h2) h1) hs hs2, fun F ρ σ H P R l w k => two h.sim g.sim F ρ σ H _ _ l w fun r1 r2 x y F' ρ' H' l' s kp rv1 rv2 p => ?_⟩
  match r1, r2, p with
  | .dat (.int m), .dat (.int n), p =>
    cases rv1
    cases rv2
    exact ⟨m, n, rfl, ⟨p.1.1, p.1.2, p.2.1.1, p.2.1.2⟩, k _ _ F' ρ' H' l' s kp (walkD_range rfl) p.2.2⟩
/-! ### enumerate -/
def enD (ds : List D) : List D := (List.range ds.length).map fun i => .tup [.int (i : Nat), ds.getD i .non]
theorem enD_len (ds : List D) : (enD ds).length = ds.length := by unfold enD; rw [List.length_map, List.length_range]
theorem enD_get {ds : List D} {i : Nat} {d : D} (h : ds[i]? = some d) : (enD ds)[i]? = some (.tup [.int (i : Nat), d]) := by
  have hl := (List.getElem?_eq_some_iff.mp h).1
  unfold enD
  rw [List.getElem?_map, List.getElem?_range hl]
  show some (D.tup [.int (i : Nat), ds.getD i .non]) = _
  rw [List.getD_eq_getElem?_getD, h]
  rfl
theorem walkD_pair {F : Hp} {J : It} {G : Hp → Prop} {f : Nat → Option V} {vs : List V} {ds es : List D} (he : es.length = ds.length) (w : Walk J vs.length G (YPair f (fun i => vs[i]?))) (hG : ∀ {F0 H0 : Hp} {a0 : ∀ p, B.md = some p → ¬ NoO H0 p.2} F2 ρ σ H2, Rel ⟨B.K, B.md, F0, H0, a0⟩ F2 ρ σ H2 → Same F F2 → G H2) (ha : RvA B.K B.hd F vs ds)
    (hf : ∀ i x d, f i = some x → ds[i]? = some d → ∃ dx, es[i]? = some (.tup [dx, d]) ∧ Rv B.K B.hd F x dx) : WalkD B J es F := by
  refine ⟨G, _, by rw [he, ← ha.len]; exact w, hG, fun i F2 ρ σ H2 x H3 l s hi y => ?_⟩
  obtain ⟨T, x1, y1, rfl, hT, rfl, e1, e2⟩ := y
  obtain ⟨d, e3, e4⟩ := ha.get e2
  obtain ⟨dx, e5, e6⟩ := hf i x1 d e1 e3
  obtain ⟨l3, s3⟩ := l.newF (u := .tup [x1, y1]) hT
  refine ⟨_, _, e5, l3, s3, Rv.tup (SqT.of upd_same) (.cons ((e6.mono s).mono s3) (.cons ((e4.mono s).mono s3) .nil)), same_new hT, fun b hb => ?_⟩
  by_cases e : b = T
  · subst e
    exact .inr hT
  · rw [upd_ne e] at hb
    exact .inl hb
def dEnum (ta : DT) : DIT := fun ρ P => (ta ρ fun r ρ1 => ∃ ds, vl ρ1 r = .lst ds ∧ P (enD ds) (mvE ρ1 r)) ∨ (ta ρ fun r ρ1 => ∃ ds, (vl ρ1 r = .tup ds ∨ vl ρ1 r = .tpx ds) ∧ P (enD ds) (mvE ρ1 r))
theorem di_enum (K : PySem.W.Frag) {p pos tpos : Pos} {elts : List Expr} {kk : Nat} (hg : Gl X "enumerate") (hm : X.mg "enumerate" = none) (h : DE X B e tE te) (hK : X.K = B.K := by rfl) (hB : B.K = K := by rfl) (h1 : starEach [e] X.env = (false, eval e X.env) :: starEach [] X.env := by rfl) (hs : starEach [e] X.env = [(false, eval e X.env)] := by rfl) :
    DI X B (.Tuple elts kk tpos) (.Call (.Name "enumerate" p) [e] [] pos) (EnA K (tCons tE tNil)) (dEnum te) := by
  subst hB
  refine ⟨by rw [← hK]; exact pi_enumA hg hm (pa_cons h.pe pa_nil h1) hs, fun F ρ σ H P R l w k => ⟨?_⟩⟩
  rcases w with w | w
  · refine .inl (h.sim.frz F ρ σ H _ _ l w fun r v F' ρ' H' l' s kp rv p => ?_)
    obtain ⟨F2, s2, l2, v2⟩ := l'.mv rv
    obtain ⟨ds, ev, p⟩ := p
    rw [ev] at v2
    cases v2 with
    | lst a1 a2 =>
      exact ⟨_, _, rfl, .of (l2.sub _ _ a1), k _ _ F2 _ H' l2 (s.trans s2) (kp.trans Kp.mv) (walkD_pair (enD_len ds) (walk_enum (K := B.K)) (fun F3 ρ3 σ3 H3 l3 s3 => SqL.of (l3.sub _ _ (s3 _ _ a1))) a2 fun i x d e1 e2 => by
        cases e1
        exact ⟨_, enD_get e2, .int _⟩) p⟩
  · refine .inr (h.sim.frz F ρ σ H _ _ l w fun r v F' ρ' H' l' s kp rv p => ?_)
    obtain ⟨F2, s2, l2, v2⟩ := l'.mv rv
    obtain ⟨ds, ev, p⟩ := p
    have fin : ∀ a xs, v = .ref a → SqT B.K F2 a xs → RvA B.K B.hd F2 xs ds → ∃ a xs, [v] = [V.ref a] ∧ SqT B.K H' a xs ∧ R (ItU B.K a) H' := fun a xs ev a1 a2 =>
      ⟨a, xs, by rw [ev], Same.sqT l2.sub a1, k _ _ F2 _ H' l2 (s.trans s2) (kp.trans Kp.mv) (walkD_pair (enD_len ds) (walk_enumT (K := B.K)) (fun F3 ρ3 σ3 H3 l3 s3 => Same.sqT l3.sub (Same.sqT s3 a1)) a2 fun i x d e1 e2 => by
        cases e1
        exact ⟨_, enD_get e2, .int _⟩) p⟩
    rcases ev with ev | ev
    · rw [ev] at v2
      cases v2 with
      | tup a1 a2 => exact fin _ _ rfl a1 a2
    · rw [ev] at v2
      cases v2 with
      | tpx a1 e9 a2 => exact fin _ _ rfl (.inl (.inr ⟨_, a1⟩)) a2
end
/-! ## targets -/
abbrev DGT := D → En → (En → Prop) → Prop
abbrev DGsT := List D → En → (En → Prop) → Prop
def Off (sl : List Nat) (σ σ' : L2.St) : Prop := σ'.length = σ.length ∧ ∀ j, j ∉ sl → σ'[j]? = σ[j]?
theorem Off.trans {sl sl' : List Nat} {a b c : L2.St} (h : Off sl a b) (g : Off sl' b c) : Off (sl ++ sl') a c := ⟨g.1.trans h.1, fun j hj => by
  rw [List.mem_append] at hj
  rw [g.2 j fun z => hj (.inr z), h.2 j fun z => hj (.inl z)]⟩
structure DG (X : Cx) (B : Bs) (tg : Expr) (sl : List Nat) (g : TG) (t : DGT) : Prop where
  pg : PG X tg g
  sim : ∀ (F : Hp) (ρ : En) (σ : L2.St) (H : Hp) (v : V) (d : D) (P : En → Prop) (Q : L2.St → Hp → Prop), Rel B F ρ σ H → Rv B.K B.hd F v d → t d ρ P → (∀ F' ρ' σ' H', Rel B F' ρ' σ' H' → Same F F' → Off sl σ σ' → P ρ' → Q σ' H') → g v σ H Q
structure DGs (X : Cx) (B : Bs) (tgs : List Expr) (sl : List Nat) (g : TGs) (t : DGsT) : Prop where
  pg : PGs X tgs g
  sim : ∀ (F : Hp) (ρ : En) (σ : L2.St) (H : Hp) (vs : List V) (ds : List D) (P : En → Prop) (Q : L2.St → Hp → Prop), Rel B F ρ σ H → RvA B.K B.hd F vs ds → t ds ρ P → (∀ F' ρ' σ' H', Rel B F' ρ' σ' H' → Same F F' → Off sl σ σ' → P ρ' → Q σ' H') → g vs σ H Q
def dgName (i : Nat) : DGT := fun d ρ P => P (ρ.set i (some (.dat d)))
def dgTup (n : Nat) (t : DGsT) : DGT := fun d ρ P => match seqOfD d with
  | some ds => ds.length = n ∧ t ds ρ P
  | none => False
def dgNil : DGsT := fun ds ρ P => match ds with
  | [] => P ρ
  | _ => False
def dgCons (t : DGT) (u : DGsT) : DGsT := fun ds ρ P => match ds with
  | d :: ds => t d ρ fun ρ1 => u ds ρ1 P
  | [] => False
section
variable {X : Cx} {B : Bs} {e : Expr} {es : List Expr} {sl sl' : List Nat} {g : TG} {gs : TGs} {t : DGT} {u : DGsT} {pos : Pos}
theorem dg_name {i : Nat} {x : Str} (hN : X.N.Nodup) (hi : X.N[i]? = some x) (hx : Loc X.env.scope x) (hf : X.fn x = true ∨ X.env.scope.names.lookup x = some .local := by first | exact .inl rfl | exact .inr rfl | assumption) : DG X B (.Name x pos) [i] (gName i) (dgName i) :=
  ⟨pg_name hN hi hx hf, fun F ρ σ H v d P Q l rv w k => k F _ _ H (l.set (o := .dat d) rv fun z => by cases z) (Same.refl _) ⟨List.length_set, fun j hj => List.getElem?_set_ne fun z => hj (by simp [z])⟩ w⟩
theorem dgs_nil : DGs X B [] [] gNil dgNil := ⟨pgs_nil, fun F ρ σ H vs ds P Q l rv w k => by
  cases rv with
  | nil => exact ⟨rfl, k F ρ σ H l (Same.refl _) ⟨rfl, fun _ _ => rfl⟩ w⟩
  | cons a b => exact w.elim⟩
theorem dgs_cons (h : DG X B e sl g t) (h2 : DGs X B es sl' gs u) (hs : (assignEach (e :: es) X.env).map (·.2) = assign e X.env :: (assignEach es X.env).map (·.2) := by rfl) : DGs X B (e :: es) (sl ++ sl') (gCons g gs) (dgCons t u) := by
  refine ⟨pgs_cons h.pg h2.pg hs, fun F ρ σ H vs ds P Q l rv w k => ?_⟩
  cases rv with
  | nil => exact w.elim
  | cons a b =>
    refine ⟨_, _, rfl, h.sim F ρ σ H _ _ _ _ l a w fun F1 ρ1 σ1 H1 l1 s1 o1 p1 => ?_⟩
    exact h2.sim F1 ρ1 σ1 H1 _ _ P Q l1 (b.mono s1) p1 fun F2 ρ2 σ2 H2 l2 s2 o2 p2 => k F2 ρ2 σ2 H2 l2 (s1.trans s2) (o1.trans o2) p2
theorem kgtup {n k : Nat} (K : PySem.W.Frag) (hc : X.calm = true) (h : PGs X es gs) (hK : X.K = K) (hn : (assignEach es X.env).length = n) (hst : (assignEach es X.env).findIdx? (·.1) = none) : PG X (.Tuple es k pos) (GuA K n gs) := by
  subst hK
  exact pg_unA hc h hn hst
theorem dg_tup (K : PySem.W.Frag) {n k : Nat} (hc : X.calm = true) (h : DGs X B es sl gs u) (hK : X.K = B.K := by rfl) (hB : B.K = K := by rfl) (hn : (assignEach es X.env).length = n := by rfl) (hst : (assignEach es X.env).findIdx? (·.1) = none := by rfl) : DG X B (.Tuple es k pos) sl (GuA K n gs) (dgTup n u) := by
  subst hB
  refine ⟨kgtup B.K hc h.pg hK hn hst, fun F ρ σ H v d P Q l rv w k => ⟨?_⟩⟩
  unfold dgTup at w
  cases e1 : seqOfD d with
  | none => rw [e1] at w; exact w.elim
  | some ds =>
    rw [e1] at w
    cases d <;> first | cases e1 | skip
    · cases rv with
      | lst a1 a2 => exact .inr ⟨_, _, rfl, .of (l.sub _ _ a1), by rw [a2.len]; exact w.1, h.sim F ρ σ H _ _ P Q l a2 w.2 k⟩
    · cases rv with
      | tup a1 a2 => exact .inl ⟨_, _, rfl, Same.sqT l.sub a1, by rw [a2.len]; exact w.1, h.sim F ρ σ H _ _ P Q l a2 w.2 k⟩
    · cases rv with
      | tpx a1 e9 a2 => exact .inl ⟨_, _, rfl, .inl (.inr ⟨_, l.sub _ _ a1⟩), by rw [a2.len]; exact w.1, h.sim F ρ σ H _ _ P Q l a2 w.2 k⟩
end
end Z

set_option Elab.async false
set_option linter.all false
set_option maxRecDepth 100000
namespace Z
open PySem L2
variable [TabsP]
/-! ## comprehensions -/
def wipeE (ρ : En) : List Nat → En
  | [] => ρ
  | v :: vs => (wipeE ρ vs).set v none
theorem wipeE_some {ρ : En} {i : Nat} {o : OV} : ∀ {vs : List Nat}, (wipeE ρ vs)[i]? = some (some o) → ρ[i]? = some (some o) ∧ i ∉ vs
  | [], h => ⟨h, by simp⟩
  | v :: vs, h => by
    rcases get_set (show ((wipeE ρ vs).set v none)[i]? = _ from h) with ⟨_, q, _⟩ | ⟨hi, q⟩
    · cases q
    · obtain ⟨a, b⟩ := wipeE_some q
      exact ⟨a, by simp [hi, b]⟩
theorem wipe_out' {σ : L2.St} {i : Nat} : ∀ {vs : List Nat}, i ∉ vs → (wipe σ vs)[i]? = σ[i]?
  | [], _ => rfl
  | v :: vs, h => by
    simp at h
    show ((wipe σ vs).set v none)[i]? = _
    rw [List.getElem?_set_ne (Ne.symm h.1), wipe_out' h.2]
theorem wipe_in {σ : L2.St} {i : Nat} : ∀ {vs : List Nat}, i ∈ vs → i < σ.length → (wipe σ vs)[i]? = some none
  | v :: vs, h, hl => by
    show ((wipe σ vs).set v none)[i]? = _
    by_cases e : i = v
    · subst e
      rw [List.getElem?_set_self (by rw [wipe_length]; exact hl)]
    · rw [List.getElem?_set_ne (Ne.symm e)]
      exact wipe_in (by simpa [e] using h) hl
theorem wipe_off {σ σ2 : L2.St} {sl vs : List Nat} (o : Off sl (wipe σ vs) σ2) (h : ∀ j ∈ sl, j ∈ vs) : wipe σ2 vs = wipe σ vs := by
  refine List.ext_getElem? fun j => ?_
  by_cases hj : j ∈ vs
  · by_cases hl : j < σ.length
    · rw [wipe_in hj hl, wipe_in hj (by rw [o.1, wipe_length]; exact hl)]
    · rw [List.getElem?_eq_none (by rw [wipe_length, o.1, wipe_length]; omega), List.getElem?_eq_none (by rw [wipe_length]; omega)]
  · rw [wipe_out' hj, o.2 j fun z => hj (h j z)]
section
variable {B : Bs} {F F' H H' : Hp} {ρ ρ' : En} {σ σ' : L2.St}
theorem Rel.wipe (r : Rel B F ρ σ H) : ∀ vs, Rel B F (wipeE ρ vs) (L2.wipe σ vs) H := by
  intro vs
  refine ⟨?_, r.sb, r.fro, r.new, r.kept, r.hnd, fun i o e => ?_, fun i j o o' v e e' w w' s s' => ?_⟩
  · rw [wipe_length, ← r.len]
    induction vs with
    | nil => rfl
    | cons v vs ih => unfold wipeE; rw [List.length_set, ih]
  · obtain ⟨a, b⟩ := wipeE_some e
    rw [wipe_out' b]
    exact r.var i o a
  · obtain ⟨a, b⟩ := wipeE_some e
    obtain ⟨a', b'⟩ := wipeE_some e'
    rw [wipe_out' b] at s
    rw [wipe_out' b'] at s'
    exact r.ap i j o o' v a a' w w' s s'
theorem Rel.unwipe {vs : List Nat} (r : Rel B F (wipeE ρ vs) (L2.wipe σ vs) H) : Rel B F (wipeE ρ vs) σ H := by
  refine ⟨by rw [r.len, wipe_length], r.sb, r.fro, r.new, r.kept, r.hnd, fun i o e => ?_, fun i j o o' v e e' w w' s s' => ?_⟩
  · obtain ⟨_, b⟩ := wipeE_some e
    have := r.var i o e
    rw [wipe_out' b] at this
    exact this
  · obtain ⟨_, b⟩ := wipeE_some e
    obtain ⟨_, b'⟩ := wipeE_some e'
    exact r.ap i j o o' v e e' w w' (by rw [wipe_out' b]; exact s) (by rw [wipe_out' b']; exact s')
/-- from a state as a base, back to the base of old -/
theorem Rel.rebase (r : Rel B F ρ σ H) (hd : ∀ (i : Nat) (o : OV), ρ[i]? = some (some o) → o.isOwn = false) {a0 : ∀ p, B.md = some p → ¬ NoO H p.2} (r' : Rel ⟨B.K, B.md, F, H, a0⟩ F' ρ' σ' H') : Rel B F' ρ σ H' := by
  have s : Same F F' := r'.fro
  refine ⟨r.len, r'.sb, r.fro.trans s, fun b hb => ?_, fun b o e n t => r'.kept b o (r.kept b o e n t) n t, fun p e => ?_, fun i o e => ?_, fun i j o o' v e e' w => ?_⟩
  · rcases r'.new b hb with z | z
    · exact r.new b z
    · exact .inr (r.no0 z)
  · obtain ⟨h1, h2, _⟩ := r'.hnd p e
    exact ⟨h1, h2, (r.hnd p e).2.2⟩
  · obtain ⟨v, e1, h⟩ := r.var i o e
    have := hd i o e
    cases o with
    | dat d => exact ⟨v, e1, Rv.mono h s⟩
    | own ds => cases this
    | dic ks ds => cases this
  · rw [hd i o e] at w; cases w
theorem Rel.base (r : Rel B F ρ σ H) (hd : ∀ (i : Nat) (o : OV), ρ[i]? = some (some o) → o.isOwn = false) (a0 : ∀ p, B.md = some p → ¬ NoO H p.2) : Rel ⟨B.K, B.md, F, H, a0⟩ F ρ σ H := by
  refine ⟨r.len, r.sb, Same.refl _, fun b hb => .inl hb, fun b o e _ _ => e, fun p e => ?_, fun i o e => ?_, fun i j o o' v e e' w => ?_⟩
  · obtain ⟨h1, h2, _⟩ := r.hnd p e
    obtain ⟨u, hu, t⟩ := h1.ex1
    exact ⟨h1, h2, someO hu t⟩
  · obtain ⟨v, e1, h⟩ := r.var i o e
    have := hd i o e
    cases o with
    | dat d => exact ⟨v, e1, h⟩
    | own ds => cases this
    | dic ks ds => cases this
  · rw [hd i o e] at w; cases w
theorem Rel.a0 (r : Rel B F ρ σ H) : ∀ p, B.md = some p → ¬ NoO H p.2 := fun p e z => by
  obtain ⟨h1, _, _⟩ := r.hnd p e
  obtain ⟨u, hu, t⟩ := h1.ex2
  exact z.ne hu t
theorem lent_dat {i : Nat} {o : OV} (h : (lent ρ)[i]? = some (some o)) : o.isOwn = false := by
  obtain ⟨o', _, rfl⟩ := lent_get h
  rfl
end
structure DPs (X : Cx) (B : Bs) (ifs : List Expr) (tT : TT) (t : DBT) : Prop where
  pts : PTs X ifs tT
  sim : SimB B tT t
def dYes : DBT := fun ρ P => P true ρ
theorem dps_nil {X : Cx} {B : Bs} : DPs X B [] tYes dYes := ⟨pts_nil, fun F ρ σ H P Q l w k => k true F ρ H l (Same.refl _) Kp.refl w⟩
theorem dps_one {X : Cx} {B : Bs} {c : Expr} {tT : TT} {t : DBT} (h : DTs X B c tT t) : DPs X B [c] tT t := ⟨pts_one h.pt, h.sim⟩
def dLcL (g : DGT) (tt : DBT) (te : DT) (ρl : En) (ho : Bool) : List D → List D → (List D → Prop) → Prop
  | [], acc, P => P acc
  | d :: ds, acc, P => g d ρl fun ρ2 => tt ρ2 fun b ρ3 => if b = true then te ρ3 fun r ρ4 => acc.length < sizeLine ∧ r.isVar = false ∧ (ho = true → noL (vl ρ4 r) = true) ∧ dLcL g tt te ρl ho ds (acc ++ [vl ρ4 r]) P
      else dLcL g tt te ρl ho ds acc P
def hasOwn (ρ : En) : Bool := ρ.any fun o => match o with
  | some o => o.isOwn
  | none => false
def noOwnAt (ρ : En) (vs : List Nat) : Bool := vs.all fun i => match ρ[i]? with
  | some (some o) => !o.isOwn
  | _ => true
def dLc (vs : List Nat) (ti : DIT) (g : DGT) (tt : DBT) (te : DT) : DT := fun ρ P => ti ρ fun ds ρ1 => noOwnAt ρ1 vs = true ∧ dLcL g tt te (lent (wipeE ρ1 vs)) (hasOwn (wipeE ρ1 vs)) ds [] fun out => P (.new out) ρ1
theorem noOwn_at {ρ : En} {vs : List Nat} (h : noOwnAt ρ vs = true) {i : Nat} {o : OV} (hi : i ∈ vs) (e : ρ[i]? = some (some o)) : o.isOwn = false := by
  have := List.all_eq_true.mp h i hi
  simp only [e] at this
  simpa using this
theorem wipeE_out {ρ : En} {i : Nat} : ∀ {vs : List Nat}, i ∉ vs → (wipeE ρ vs)[i]? = ρ[i]?
  | [], _ => rfl
  | v :: vs, h => by
    simp at h
    show ((wipeE ρ vs).set v none)[i]? = _
    rw [List.getElem?_set_ne (Ne.symm h.1), wipeE_out h.2]
theorem Rel.rewipe {B : Bs} {F F' H H' : Hp} {ρ : En} {σ : L2.St} {vs : List Nat} (l : Rel B F ρ σ H) (no : noOwnAt ρ vs = true) (s : Same F F') (r : Rel B F' (wipeE ρ vs) σ H') : Rel B F' ρ σ H' := by
  refine ⟨l.len, r.sb, r.fro, r.new, r.kept, r.hnd, fun i o e => ?_, l.ap⟩
  by_cases hi : i ∈ vs
  · obtain ⟨v, e1, h⟩ := l.var i o e
    have := noOwn_at no hi e
    cases o with
    | dat d => exact ⟨v, e1, Rv.mono h s⟩
    | own ds => cases this
    | dic ks ds => cases this
  · exact r.var i o (by rw [wipeE_out hi]; exact e)
theorem hasOwn_of {ρ : En} {i : Nat} {o : OV} (e : ρ[i]? = some (some o)) (w : o.isOwn = true) : hasOwn ρ = true := by
  unfold hasOwn
  rw [List.any_eq_true]
  exact ⟨some o, List.mem_of_getElem? e, w⟩
theorem lc_sim {B : Bs} {wi : TI} {g : TG} {tt : TT} {te : TE} {vs sl : List Nat} {ti : DIT} {dg : DGT} {dt : DBT} {de : DT} (hi : SimI B wi ti) (hsl : ∀ j ∈ sl, j ∈ vs)
    (hg : ∀ (F0 H0 : Hp) (a0 : ∀ p, B.md = some p → ¬ NoO H0 p.2), ∀ (F : Hp) (ρ : En) (σ : L2.St) (H : Hp) (v : V) (d : D) (P : En → Prop) (Q : L2.St → Hp → Prop), Rel ⟨B.K, B.md, F0, H0, a0⟩ F ρ σ H → Rv B.K B.hd F v d → dg d ρ P → (∀ F' ρ' σ' H', Rel ⟨B.K, B.md, F0, H0, a0⟩ F' ρ' σ' H' → Same F F' → Off sl σ σ' → P ρ' → Q σ' H') → g v σ H Q)
    (ht : ∀ (F0 H0 : Hp) (a0 : ∀ p, B.md = some p → ¬ NoO H0 p.2), SimB ⟨B.K, B.md, F0, H0, a0⟩ tt dt) (he : ∀ (F0 H0 : Hp) (a0 : ∀ p, B.md = some p → ¬ NoO H0 p.2), Sim ⟨B.K, B.md, F0, H0, a0⟩ te de) :
    ∀ (F : Hp) (ρ : En) (σ : L2.St) (H : Hp) (P : R → En → Prop) (Q : VK), Rel B F ρ σ H → dLc vs ti dg dt de ρ P →
      (∀ r v F' ρ' H', Rel B F' ρ' σ H' → Same F F' → Kp ρ ρ' → RvR B F' ρ' σ H' v r → P r ρ' → Q v H') → tLc wi g tt te vs σ H Q := by
  intro F ρ σ H P Q l w k
  refine hi F ρ σ H _ _ l w fun J ds F1 ρ1 H1 l1 s1 kp wd pp Dd nD => ?_
  obtain ⟨no, p⟩ := pp
  obtain ⟨G, Y, wk, hG, hY⟩ := wd.ex
  have l0 := l1.wipe vs
  generalize eρ : wipeE ρ1 vs = ρ0 at l0 p
  obtain ⟨σ0, eσ⟩ : ∃ s, s = L2.wipe σ vs := ⟨_, rfl⟩
  rw [← eσ] at l0
  have nOwn : ¬ Own ρ0 σ0 Dd := fun z => by
    obtain ⟨_, _, u, e, _⟩ := l0.ownF z
    rw [nD] at e; cases e
  have nO : ∀ (i : Nat) (o : OV), ρ0[i]? = some (some o) → o.isOwn = true → σ0[i]? ≠ some (some (V.ref Dd)) := fun i o e w z => nOwn ⟨i, o, e, w, z⟩
  have n0 : NoO B.H0 Dd := l0.no0 (.of nD)
  refine lc_it wk (vs := vs) (σ := σ) (g := g) (tt := tt) (te := te) (Qd := Q (.ref Dd)) (fun i H => ∃ (F2 : Hp) (acc : List V) (accD : List D), Rel B F2 ρ0 σ0 H ∧ Same F1 F2 ∧ H Dd = some (.lst acc) ∧ RvA B.K B.hd F2 acc accD ∧ F2 Dd = none ∧ dLcL dg dt de (lent ρ0) (hasOwn ρ0) (ds.drop i) accD fun out => P (.new out) ρ1)
    ⟨F1, [], [], l0.newO nD, Same.refl _, upd_same, .nil, l0.noF nD, p⟩ (fun i H2 _ ⟨F2, _, _, l2, s2, _⟩ => hG F2 ρ0 σ0 H2 l2 s2) ?_ ?_
  · rintro i x H2 H3 hi' ⟨F2, acc, accD, l2, s2, e2, a2, n2, p2⟩ y
    obtain ⟨d, F3, ed, l3, s3, rv3, sH, nw⟩ := hY i F2 ρ0 σ0 H2 x H3 l2 s2 hi' y
    have hl := (List.getElem?_eq_some_iff.mp ed).1
    have edr : ds.drop i = d :: ds.drop (i + 1) := by
      rw [List.drop_eq_getElem_cons hl, (List.getElem?_eq_some_iff.mp ed).2]
    rw [edr] at p2
    have e3 : H3 Dd = some (.lst acc) := sH _ _ e2
    have n3 : F3 Dd = none := by
      cases q : F3 Dd with
      | none => rfl
      | some u =>
        rcases nw Dd (by rw [q]; simp) with z | z
        · exact absurd n2 z
        · rw [e2] at z; cases z
    have lL := l3.lend
    have lB := lL.base (fun i o e => lent_dat e) lL.a0
    have bk : ∀ {F4 : Hp} {ρ4 : En} {σ4 : L2.St} {H4 : Hp}, Rel ⟨B.K, B.md, Z.lend F3 ρ0 σ0 H3, H3, lL.a0⟩ F4 ρ4 σ4 H4 → Rel B (unlend F4 ρ0 σ0) ρ0 σ0 H4 ∧ Same F3 (unlend F4 ρ0 σ0) ∧ H4 Dd = some (.lst acc) ∧ unlend F4 ρ0 σ0 Dd = none ∧ (∀ (v : V) (d : D), Rv B.K B.hd F4 v d → (hasOwn ρ0 = true → noL d = true) → Rv B.K B.hd (unlend F4 ρ0 σ0) v d) := fun {F4 ρ4 σ4 H4} r4 => by
      have r5 := lL.rebase (fun i o e => lent_dat e) r4
      obtain ⟨r6, s6, less⟩ := l3.back r4.fro r5
      refine ⟨r6, s6, r4.kept Dd _ e3 (fun p ep z => (l0.hnd p ep).2.2 (by rw [← z]; exact n0)) (fun ⟨_, z⟩ => (by cases z)), ?_, fun v d rv hn => ?_⟩
      · rw [unlend_no nOwn]
        cases q : F4 Dd with
        | none => rfl
        | some u =>
          rcases r4.new Dd (by rw [q]; simp) with z | z
          · exact absurd (by show Z.lend F3 ρ0 σ0 H3 Dd = none; rw [lend_no nOwn]; exact n3) z
          · exact (NoO.ne (H := H3) z e3 fun ps z => (by cases z)).elim
      · by_cases ho : hasOwn ρ0 = true
        · exact Rv.less less d v (hn ho) rv
        · refine rv.mono fun b o e => ?_
          rw [unlend_no]
          · exact e
          · rintro ⟨i, o', e1, w1, _⟩
            exact ho (hasOwn_of e1 w1)
    rw [← eσ]
    refine hg _ _ lL.a0 _ _ _ _ x d _ _ lB (rv3.mono l3.lend_same) p2 fun F4 ρ4 σ4 H4 l4 s4 o4 p4 => ⟨by rw [eσ] at o4 ⊢; exact wipe_off o4 hsl, ?_⟩
    refine ht _ _ lL.a0 F4 ρ4 σ4 H4 _ _ l4 p4 fun b F5 ρ5 H5 l5 s5 k5 p5 => ?_
    cases b with
    | false =>
      obtain ⟨r6, s6, e6, n6, _⟩ := bk l5
      exact ⟨_, acc, accD, r6, s2.trans (s3.trans s6), e6, a2.mono (s3.trans s6), n6, p5⟩
    | true =>
      refine (he _ _ lL.a0).frz F5 ρ5 σ4 H5 _ _ l5 p5 fun r v F6 ρ6 H6 l6 s6 k6 rv6 ⟨q1, q2, q3, q4⟩ => ?_
      obtain ⟨r7, s7, e7, n7, c7⟩ := bk l6
      have rv7 : Rv B.K B.hd F6 v (vl ρ6 r) := by
        cases r with
        | dat d => exact rv6
        | new ds => exact rv6
        | var i => cases q2
      refine ⟨acc, e7, by rw [a2.len]; exact q1, _, acc ++ [v], _, r7.upd n7 n0 nO (kt_lst e7), s2.trans (s3.trans s7), upd_same, (a2.mono (s3.trans s7)).app (.cons (c7 v _ rv7 q3) .nil), n7, q4⟩
  · rintro H2 ⟨F2, acc, accD, l2, s2, e2, a2, n2, p2⟩
    rw [List.drop_length] at p2
    refine k (.new accD) _ F2 ρ1 H2 (l1.rewipe no s2 (by subst eρ eσ; exact l2.unwipe)) (s1.trans s2) kp ⟨Dd, acc, rfl, e2, a2, n2, n0, fun i o e w z => ?_⟩ p2
    have hi : i ∉ vs := fun hi => by rw [noOwn_at no hi e] at w; cases w
    refine nO i o (by rw [← eρ, wipeE_out hi]; exact e) w ?_
    rw [eσ, wipe_out' hi]
    exact z
end Z

set_option Elab.async false
set_option linter.all false
set_option maxRecDepth 100000
namespace Z
open PySem L2
variable [TabsP]
/-! ## from an entry -/
def After (B : Bs) (F' H' : Hp) : Prop := Same B.F0 F' ∧ Sub F' H' ∧ (∀ b, F' b ≠ none → B.F0 b ≠ none ∨ NoO B.H0 b) ∧ (∀ b o, B.H0 b = some o → (∀ p, B.md = some p → b ≠ p.1) → ¬ IsTbl o → H' b = some o) ∧ ∀ p, B.md = some p → Hnd H' p.1 p.2 ∧ F' p.1 = none ∧ ¬ NoO B.H0 p.1
def RvC (B : Bs) (F' H' : Hp) (v : V) : R → Prop
  | .dat d => Rv B.K B.hd F' v d
  | .new ds => ∃ p vs, v = .ref p ∧ H' p = some (.lst vs) ∧ RvA B.K B.hd F' vs ds ∧ F' p = none ∧ NoO B.H0 p
  | .var _ => False
section
variable {B : Bs} {F F' H H' : Hp} {ρ ρ' : En} {σ σ' : L2.St}
theorem Rel.to (r : Rel B F ρ σ H) : After B F H := ⟨r.fro, r.sb, r.new, r.kept, r.hnd⟩
/-- behind a callee -/
theorem Rel.after (r : Rel B F ρ σ H) {a0 : ∀ p, B.md = some p → ¬ NoO H p.2} (a : After ⟨B.K, B.md, F, H, a0⟩ F' H') : Rel B F' ρ σ H' ∧ Same F F' := by
  obtain ⟨a1, a2, a3, a4, a5⟩ := a
  have s : Same F F' := a1
  refine ⟨⟨r.len, a2, r.fro.trans s, fun b hb => ?_, fun b o e n t => a4 b o (r.kept b o e n t) n t, fun p e => ⟨(a5 p e).1, (a5 p e).2.1, (r.hnd p e).2.2⟩, fun i o e => ?_, r.ap⟩, s⟩
  · rcases a3 b hb with z | z
    · exact r.new b z
    · exact .inr (r.no0 z)
  · obtain ⟨v, e1, h⟩ := r.var i o e
    refine ⟨v, e1, h.mono s fun p u ev w hp => ?_⟩
    subst ev
    obtain ⟨p', u', e', _, n', n0, _⟩ := h.own w
    cases e'
    have knt : ¬ IsTbl u := h.nt w rfl hp
    refine ⟨a4 p u hp (fun q eq z => (r.hnd q eq).2.2 (by rw [← z]; exact n0)) knt, ?_⟩
    cases q : F' p with
    | none => rfl
    | some x =>
      rcases a3 p (by rw [q]; simp) with z | z
      · exact absurd n' z
      · exact (knt ((show NoO H p from z) u hp)).elim
theorem Rel.afterR (r : Rel B F ρ σ H) {a0 : ∀ p, B.md = some p → ¬ NoO H p.2} (a : After ⟨B.K, B.md, F, H, a0⟩ F' H') {x : R} {v : V} (h : RvC ⟨B.K, B.md, F, H, a0⟩ F' H' v x) : RvR B F' ρ σ H' v x := by
  cases x with
  | dat d => exact h
  | var i => exact h.elim
  | new ds =>
    obtain ⟨p, vs, rfl, e, ra, n, n0⟩ := h
    have n1 : NoO H p := n0
    refine ⟨p, vs, rfl, e, ra, n, r.no0 n1, fun i o e1 w z => ?_⟩
    obtain ⟨v2, e2, h2⟩ := r.var i o e1
    rw [e2] at z
    cases z
    obtain ⟨q, u, eq, hu, _⟩ := h2.own w
    cases eq
    exact h2.nt w rfl hu (n1 u hu)
end
abbrev EXD := Addr → List (Str × D) → Prop
def LX (B : Bs) (ex : EXD) (E : XK) : Prop :=
  (∀ C (fs : List (Str × D)) d (fv : List (Str × V)) F' H', After B F' H' → F' d = some (.xd fv) → fv.map (·.1) = fs.map (·.1) → RvA B.K B.hd F' (fv.map (·.2)) (fs.map (·.2)) → ex C fs → E (.ref C) (some d) H') ∧
  ∀ C F' H', After B F' H' → ex C [] → E (.ref C) none H'
abbrev DW := List D → (R → Prop) → EXD → Prop
structure BOk (B : Bs) : Prop where
  sb : Sub B.F0 B.H0
  hnd : ∀ p, B.md = some p → Hnd B.H0 p.1 p.2 ∧ B.F0 p.1 = none
/-- a def's promise by values -/
def spD (K : PySem.W.Frag) (W : DW) : Sp := fun vs H Q E => ∃ (B : Bs) (ds : List D) (P : R → Prop) (ex : EXD), B.K = K ∧ B.H0 = H ∧ BOk B ∧ RvA B.K B.hd B.F0 vs ds ∧ W ds P ex ∧ (∀ r v F' H', P r → After B F' H' → RvC B F' H' v r → Q v H') ∧ LX B ex E
theorem BOk.sub {B : Bs} (h : BOk B) : Same B.F0 B.H0 := h.sb.s
theorem BOk.after {B : Bs} (h : BOk B) : After B B.F0 B.H0 := ⟨Same.refl _, h.sb, fun b hb => .inl hb, fun b o e _ _ => e, fun p e => ⟨(h.hnd p e).1, (h.hnd p e).2, (h.hnd p e).1.ex1.elim fun u hu => someO hu.1 hu.2⟩⟩
/-! ## calls -/
def dCall (W : DW) (dd : List D) (ex : EXD) (u : DTA) : DT := fun ρ P => u ρ fun rs ρ1 => W (rs.map (vl ρ1) ++ dd) (fun r => bOk rs r ∧ P r ρ1) ex
/-- a def of the module that may be called, with its promise and the values of its last parameters -/
structure CalV (P : Program) (w : World) (K : PySem.W.Frag) (mg : Str → Option Value) (base : Heap) (CX : CXT) (x : Str) (k : Nat) (sp : Sp) (dvs : List V) : Prop where
  ex : ∃ (f : Addr) (fd : FuncData) (ps : List Str) (ds : List Value), mg x = some (.ref f) ∧ PySem.W.keepIn K (.ref f) = true ∧ Binds K fd ps ds ∧ Vals dvs ds ∧ FnOk P w K mg base CX k f fd ps sp
theorem Cal.v {P : Program} {w : World} {K : PySem.W.Frag} {mg : Str → Option Value} {base : Heap} {CX : CXT} {x : Str} {k : Nat} {sp : Sp} (c : Cal P w K mg base CX x k sp) : CalV P w K mg base CX x k sp [] := by
  obtain ⟨f, fd, ps, h1, h2, h3, h4⟩ := c.ex
  exact ⟨f, fd, ps, [], h1, h2, h3, .nil, h4⟩
section
variable {X : Cx} {B : Bs} {CX : CXT} {x : Str} {k : Nat} {W : DW} {E : XK} {ex : EXD} {e : Expr} {es : List Expr} {tA : TA} {u : DTA} {p pos : Pos} {dvs : List V} {dd : List D}
theorem lx_in {F H : Hp} {ρ : En} {σ : L2.St} (l : Rel B F ρ σ H) (hl : LX B ex E) : LX ⟨B.K, B.md, F, H, l.a0⟩ ex E := by
  refine ⟨fun C fs d fv F' H' a e1 e2 e3 q => ?_, fun C F' H' a q => ?_⟩
  · obtain ⟨l', _⟩ := l.after a
    exact hl.1 C fs d fv F' H' l'.to e1 e2 e3 q
  · obtain ⟨l', _⟩ := l.after a
    exact hl.2 C F' H' l'.to q
theorem sp_call {F H : Hp} {ρ : En} {σ : L2.St} {vs : List V} {rs : List R} {P : R → Prop} {Q : VK} (l : Rel B F ρ σ H) (h : AllR B F ρ σ H vs rs) (hl : LX B ex E) (hdv : ∀ F, RvA B.K B.hd F dvs dd)
    (w : W (rs.map (vl ρ) ++ dd) (fun r => bOk rs r ∧ P r) ex) (k : Kt B F ρ σ P Q) : spD B.K W (vs ++ dvs) H Q E := by
  refine lendRun l h (fun P => W (rs.map (vl ρ) ++ dd) P ex) (fun Q => spD B.K W (vs ++ dvs) H Q E) (fun F1 ρ1 l1 _ a P' Q' w' k' => ?_) w k
  exact ⟨⟨B.K, B.md, F1, H, l1.a0⟩, _, P', ex, rfl, rfl, ⟨l1.sb, fun p e => ⟨(l1.hnd p e).1, (l1.hnd p e).2.1⟩⟩, a.app (hdv F1), w', fun r v F' H' p a rv => k' r v F' H' (l1.after a).1 (l1.after a).2 (l1.afterR a rv) p, lx_in l1 hl⟩
theorem de_callV {K : PySem.W.Frag} (c : CalV X.prog X.w X.K X.mg X.base CX x k (spD K W) dvs) (hr : Room k X.A) (hg : Gl X x) (hx : Passes CX X E) (hl : LX B ex E) (hdv : ∀ F, RvA B.K B.hd F dvs dd) (ha : DA X B (e :: es) tA u)
    (hB : B.K = K := by rfl) (hdb : (x == ("__debug__" : Str)) = false := by decide) (he : starEach (e :: es) X.env = (false, eval e X.env) :: starEach es X.env := by rfl) (hpl : (backTo pos (starEach es X.env)).any (·.1) = false := by rfl) :
    DE X B (.Call (.Name x p) (e :: es) [] pos) (tCall (spD K W) dvs E tA) (dCall W dd ex u) := by
  subst hB
  obtain ⟨f, fd, ps, ds, hm, hk, hb, hv, FO⟩ := c.ex
  refine ⟨pe_call FO hr hg hm hk hb hv hx ha.pe hdb he hpl, fun F ρ σ H P Q l w k => ha.sim F ρ σ H _ _ l w fun rs vs F' ρ' H' l' s kp al q => ?_⟩
  exact sp_call l' al hl hdv q fun r v F2 H2 l2 s2 rv p => k r v F2 ρ' H2 l2 (s.trans s2) kp rv p
def exF : EXD := fun _ _ => False
theorem lx0 : LX B exF E0 := ⟨fun _ _ _ _ _ _ _ _ _ _ q => q.elim, fun _ _ _ _ q => q.elim⟩
/-- of a def that lets nothing out -/
theorem de_call {K : PySem.W.Frag} (c : Cal X.prog X.w X.K X.mg X.base CX0 x k (spD K W)) (hr : Room k X.A) (hg : Gl X x) (ha : DA X B (e :: es) tA u)
    (hB : B.K = K := by rfl) (hdb : (x == ("__debug__" : Str)) = false := by decide) (he : starEach (e :: es) X.env = (false, eval e X.env) :: starEach es X.env := by rfl) (hpl : (backTo pos (starEach es X.env)).any (·.1) = false := by rfl) :
    DE X B (.Call (.Name x p) (e :: es) [] pos) (tCall (spD K W) [] E0 tA) (dCall W [] exF u) := de_callV c.v hr hg pass0 lx0 (fun _ => .nil) ha hB hdb he hpl
theorem de_callD {K : PySem.W.Frag} (c : CalV X.prog X.w X.K X.mg X.base CX0 x k (spD K W) dvs) (hr : Room k X.A) (hg : Gl X x) (hdv : ∀ F, RvA B.K B.hd F dvs dd) (ha : DA X B (e :: es) tA u)
    (hB : B.K = K := by rfl) (hdb : (x == ("__debug__" : Str)) = false := by decide) (he : starEach (e :: es) X.env = (false, eval e X.env) :: starEach es X.env := by rfl) (hpl : (backTo pos (starEach es X.env)).any (·.1) = false := by rfl) :
    DE X B (.Call (.Name x p) (e :: es) [] pos) (tCall (spD K W) dvs E0 tA) (dCall W dd exF u) := de_callV c hr hg pass0 lx0 hdv ha hB hdb he hpl
end
/-! ## statements -/
structure DEnds where
  nx : En → Prop
  rt : R → Prop
  bk : En → Prop := fun _ => False
  ct : En → Prop := fun _ => False
abbrev DST := DEnds → En → Prop
structure LkE (B : Bs) (F : Hp) (D : DEnds) (E : Ends) : Prop where
  nx : ∀ F' ρ' σ' H', Rel B F' ρ' σ' H' → Same F F' → D.nx ρ' → E.nx σ' H'
  rt : ∀ r v F' H', After B F' H' → RvC B F' H' v r → D.rt r → E.rt v H'
  bk : ∀ F' ρ' σ' H', Rel B F' ρ' σ' H' → Same F F' → D.bk ρ' → E.bk σ' H'
  ct : ∀ F' ρ' σ' H', Rel B F' ρ' σ' H' → Same F F' → D.ct ρ' → E.ct σ' H'
theorem LkE.mono {B : Bs} {F F' : Hp} {D : DEnds} {E : Ends} (h : LkE B F D E) (s : Same F F') : LkE B F' D E :=
  ⟨fun a b c d l s2 => h.nx a b c d l (s.trans s2), h.rt, fun a b c d l s2 => h.bk a b c d l (s.trans s2), fun a b c d l s2 => h.ct a b c d l (s.trans s2)⟩
def SimS (B : Bs) (tS : TS) (t : DST) : Prop := ∀ (F : Hp) (ρ : En) (σ : L2.St) (H : Hp) (D : DEnds) (E : Ends), Rel B F ρ σ H → t D ρ → LkE B F D E → tS E σ H
structure DS (X : Cx) (B : Bs) (st : Stmt) (tS : TS) (t : DST) : Prop where
  ps : PS X st tS
  sim : SimS B tS t
structure DSs (X : Cx) (B : Bs) (sts : List Stmt) (tS : TS) (t : DST) : Prop where
  ps : PSs X sts tS
  sim : SimS B tS t
def dNext : DST := fun D ρ => D.nx ρ
def dSq (t u : DST) : DST := fun D ρ => t { D with nx := u D } ρ
section
variable {X : Cx} {B : Bs} {st : Stmt} {sts : List Stmt} {tS uS : TS} {t u : DST} {e : Expr} {tE : TE} {te : DT} {pos : Pos}
theorem dss_nil : DSs X B [] tNext dNext := ⟨pss_nil, fun F ρ σ H D E l w k => k.nx F ρ σ H l (Same.refl _) w⟩
theorem dss_cons (h : DS X B st tS t) (g : DSs X B sts uS u) : DSs X B (st :: sts) (tSeq tS uS) (dSq t u) :=
  ⟨pss_cons h.ps g.ps, fun F ρ σ H D E l w k => h.sim F ρ σ H _ { E with nx := uS E } l w ⟨fun F' ρ' σ' H' l' s q => g.sim F' ρ' σ' H' D E l' q (k.mono s), k.rt, k.bk, k.ct⟩⟩
theorem dss_one (h : DS X B st tS t) : DSs X B [st] tS t := ⟨pss_one h.ps, h.sim⟩
theorem ds_pass : DS X B (.Pass pos) tNext dNext := ⟨ps_pass, fun F ρ σ H D E l w k => k.nx F ρ σ H l (Same.refl _) w⟩
def dBreak : DST := fun D ρ => D.bk ρ
def dCont : DST := fun D ρ => D.ct ρ
theorem ds_break : DS X B (.Break pos) tBreak dBreak := ⟨ps_break, fun F ρ σ H D E l w k => k.bk F ρ σ H l (Same.refl _) w⟩
theorem ds_continue : DS X B (.Continue pos) tCont dCont := ⟨ps_continue, fun F ρ σ H D E l w k => k.ct F ρ σ H l (Same.refl _) w⟩
def dDrop (te : DT) : DST := fun D ρ => te ρ fun _ ρ1 => D.nx ρ1
theorem ds_expr (h : DE X B e tE te) (hs : swapsWith e none pos.line X.env = pure false := by rfl) : DS X B (.Expr e pos) (tDrop tE) (dDrop te) :=
  ⟨ps_expr h.pe hs, fun F ρ σ H D E l w k => h.sim F ρ σ H _ _ l w fun r v F' ρ' H' l' s kp rv p => k.nx F' ρ' σ H' l' s p⟩
/-- what is given back of a name's own list is a new list -/
def retR (ρ : En) : R → R
  | .var i => match ρ[i]? with
    | some (some (.own ds)) => .new ds
    | some (some o) => .dat o.frz
    | _ => .var i
  | r => r
def dRet (te : DT) : DST := fun D ρ => te ρ fun r ρ1 => D.rt (retR ρ1 r)
theorem ret_of {F H : Hp} {ρ : En} {σ : L2.St} {r : R} {v : V} (l : Rel B F ρ σ H) (h : RvR B F ρ σ H v r) : ∃ F', After B F' H ∧ RvC B F' H v (retR ρ r) := by
  cases r with
  | dat d => exact ⟨F, l.to, h⟩
  | new ds =>
    obtain ⟨p, vs, e, e1, a, n, n0, _⟩ := h
    exact ⟨F, l.to, p, vs, e, e1, a, n, n0⟩
  | var i =>
    obtain ⟨es, o, e⟩ := h
    cases o with
    | own ds =>
      have q : retR ρ (.var i) = .new ds := by
        show (match ρ[i]? with | some (some (.own ds)) => R.new ds | some (some o) => .dat o.frz | _ => .var i) = _
        rw [e]
      rw [q]
      obtain ⟨v', e1, p, vs, rfl, h1, h2, h3, h4⟩ := l.var i _ e
      rw [es] at e1
      cases e1
      exact ⟨F, l.to, p, vs, rfl, h1, h2, h3, h4⟩
    | dat d =>
      have q : retR ρ (.var i) = .dat d := by
        show (match ρ[i]? with | some (some (.own ds)) => R.new ds | some (some o) => .dat o.frz | _ => .var i) = _
        rw [e]
        rfl
      rw [q]
      obtain ⟨v', e1, h1⟩ := l.var i _ e
      rw [es] at e1
      cases e1
      exact ⟨F, l.to, h1⟩
    | dic ks ds =>
      have q : retR ρ (.var i) = .dat (.dct ks ds) := by
        show (match ρ[i]? with | some (some (.own ds)) => R.new ds | some (some o) => .dat o.frz | _ => .var i) = _
        rw [e]
        rfl
      rw [q]
      obtain ⟨F', s, l', rv⟩ := l.mv (r := .var i) (v := v) ⟨es, _, e⟩
      have q2 : vl ρ (.var i) = .dct ks ds := by
        show (match ρ[i]? with | some (some o) => o.frz | _ => D.non) = _
        rw [e]
        rfl
      rw [q2] at rv
      exact ⟨F', l'.to, rv⟩
theorem ds_ret (h : DE X B e tE te) : DS X B (.Return (some e) pos) (tRet tE) (dRet te) := by
  refine ⟨ps_ret h.pe, fun F ρ σ H D E l w k => h.sim F ρ σ H _ _ l w fun r v F' ρ' H' l' s kp rv p => ?_⟩
  obtain ⟨F2, a, q⟩ := ret_of l' rv
  exact k.rt _ v F2 H' a q p
def dRetN : DST := fun D _ => D.rt (.dat .non)
theorem ds_retN : DS X B (.Return none pos) tRetN dRetN := ⟨ps_retN, fun F ρ σ H D E l w k => k.rt (.dat .non) _ F H l.to .non w⟩
def dIf (c : DBT) (t u : DST) : DST := fun D ρ => c ρ fun b ρ1 => if b = true then t D ρ1 else u D ρ1
theorem ds_if {c : Expr} {a b : List Stmt} {tT : TT} {tc : DBT} (hc : DTs X B c tT tc) (ha : DSs X B a tS t) (hb : DSs X B b uS u) : DS X B (.If c a b pos) (tIfS tT tS uS) (dIf tc t u) := by
  refine ⟨ps_if hc.pt ha.ps hb.ps, fun F ρ σ H D E l w k => hc.sim F ρ σ H _ _ l w fun b F' ρ' H' l' s kp p => ?_⟩
  cases b with
  | true => exact ha.sim F' ρ' σ H' D E l' p (k.mono s)
  | false => exact hb.sim F' ρ' σ H' D E l' p (k.mono s)
/-! ### a name's new value: frozen, or its own -/
def dSetF (i : Nat) (te : DT) : DST := fun D ρ => te ρ fun r ρ1 => D.nx ((mvE ρ1 r).set i (some (.dat (vl ρ1 r))))
def dSetO (i : Nat) (te : DT) : DST := fun D ρ => te ρ fun r ρ1 => match r with
  | .new ds => D.nx (ρ1.set i (some (.own ds)))
  | _ => False
theorem sim_setF {i : Nat} (h : Sim B tE te) : SimS B (tAsg tE (gName i)) (dSetF i te) := fun F ρ σ H D E l w k => h.frz F ρ σ H _ _ l w fun r v F' ρ' H' l' s kp rv p => by
  obtain ⟨F2, s2, l2, v2⟩ := l'.mv rv
  exact k.nx F2 _ _ H' (l2.set (o := .dat _) v2 fun z => by cases z) (s.trans s2) p
theorem sim_setO {i : Nat} (h : Sim B tE te) : SimS B (tAsg tE (gName i)) (dSetO i te) := fun F ρ σ H D E l w k => h F ρ σ H _ _ l w fun r v F' ρ' H' l' s kp rv p => by
  match r, rv, p with
  | .new ds, ⟨q, vs, ev, e1, a, n, n0, ne⟩, p =>
    subst ev
    exact k.nx F' _ _ H' (l'.set (o := .own ds) ⟨q, vs, rfl, e1, a, n, n0⟩ fun _ j o' e w => ne j o' e w) s p
theorem ds_setF {i : Nat} {x : Str} {pos' : Pos} (hN : X.N.Nodup) (hi : X.N[i]? = some x) (hx : Loc X.env.scope x) (h : DE X B e tE te) (hs : swapsWith e (some (.Name x pos')) pos.line X.env = pure false := by rfl) (hf : X.fn x = true ∨ X.env.scope.names.lookup x = some .local := by first | exact .inl rfl | exact .inr rfl | assumption) :
    DS X B (.Assign [.Name x pos'] e pos) (tAsg tE (gName i)) (dSetF i te) := ⟨ps_set hN hi hx h.pe hs hf, sim_setF h.sim⟩
theorem ds_setO {i : Nat} {x : Str} {pos' : Pos} (hN : X.N.Nodup) (hi : X.N[i]? = some x) (hx : Loc X.env.scope x) (h : DE X B e tE te) (hs : swapsWith e (some (.Name x pos')) pos.line X.env = pure false := by rfl) (hf : X.fn x = true ∨ X.env.scope.names.lookup x = some .local := by first | exact .inl rfl | exact .inr rfl | assumption) :
    DS X B (.Assign [.Name x pos'] e pos) (tAsg tE (gName i)) (dSetO i te) := ⟨ps_set hN hi hx h.pe hs hf, sim_setO h.sim⟩
/-! ### comprehensions -/
variable {tg iter elt : Expr} {ifs : List Expr} {scope : Scope} {own : List (Str × Nat)} {wi : TI} {g : TG} {tt : TT} {te' : TE} {sl : List Nat} {ti : DIT} {dg : DGT} {dt : DBT} {de : DT}
theorem de_lc (hc : X.calm = true) (hN : X.N.Nodup) (hi : DI X B tg iter wi ti) (ok : BlkOk X.N X.env.scope scope own)
    (hg : ∀ (F0 H0 : Hp) (a0 : ∀ p, B.md = some p → ¬ NoO H0 p.2) (s : Shared) (H : Hp) (C : Addr) (cl : List (Str × Addr)) (fp : List Addr), DG (X.blk s H scope (compEnvC scope cl C X.env) fp) ⟨B.K, B.md, F0, H0, a0⟩ tg sl g dg)
    (ht : ∀ (F0 H0 : Hp) (a0 : ∀ p, B.md = some p → ¬ NoO H0 p.2) (s : Shared) (H : Hp) (C : Addr) (cl : List (Str × Addr)) (fp : List Addr), DPs (X.blk s H scope (compEnvC scope cl C X.env) fp) ⟨B.K, B.md, F0, H0, a0⟩ ifs tt dt)
    (he : ∀ (F0 H0 : Hp) (a0 : ∀ p, B.md = some p → ¬ NoO H0 p.2) (s : Shared) (H : Hp) (C : Addr) (cl : List (Str × Addr)) (fp : List Addr), DE (X.blk s H scope (compEnvC scope cl C X.env) fp) ⟨B.K, B.md, F0, H0, a0⟩ elt te' de)
    (hsl : ∀ j ∈ sl, j ∈ own.map (·.2) := by decide) (s0 : Shared) (hs : ∀ x, foldedSetIterable iter X.env x = pure x := by intro _; rfl) : DE X B (.ListComp elt [⟨tg, iter, ifs, 0⟩] scope pos) (tLc wi g tt te' (own.map (·.2))) (dLc (own.map (·.2)) ti dg dt de) := by
  have an : ∀ (H0 : Hp) (a0 : ∀ p, B.md = some p → ¬ NoO H0 p.2), True := fun _ _ => trivial
  refine ⟨pe_lc hc hN hi.pi ok (fun s H C cl fp => ?_) (fun s H C cl fp => ?_) (fun s H C cl fp => ?_) hs, lc_sim hi.sim hsl (fun F0 H0 a0 => (hg F0 H0 a0 s0 H0 0 [] []).sim) (fun F0 H0 a0 => (ht F0 H0 a0 s0 H0 0 [] []).sim) (fun F0 H0 a0 => (he F0 H0 a0 s0 H0 0 [] []).sim)⟩
  · exact (hg B.F0 B.H0 B.a0 s H C cl fp).pg
  · exact (ht B.F0 B.H0 B.a0 s H C cl fp).pts
  · exact (he B.F0 B.H0 B.a0 s H C cl fp).pe
/-- x = [..] -/
theorem ds_lcF {i : Nat} {y : Str} {py spos : Pos} (hc : X.calm = true) (hN : X.N.Nodup) (hy : X.N[i]? = some y) (hyl : X.env.scope.names.lookup y = some .local)
    (hsw : swapsWith (.ListComp elt [⟨tg, iter, ifs, 0⟩] scope pos) (some (.Name y py)) spos.line X.env = pure true) (hi : DI X B tg iter wi ti) (ok : BlkOk X.N X.env.scope scope own)
    (hg : ∀ (F0 H0 : Hp) (a0 : ∀ p, B.md = some p → ¬ NoO H0 p.2) (s : Shared) (H : Hp) (C : Addr) (cl : List (Str × Addr)) (fp : List Addr), DG (X.blk s H scope (compEnvC scope cl C X.env) fp) ⟨B.K, B.md, F0, H0, a0⟩ tg sl g dg)
    (ht : ∀ (F0 H0 : Hp) (a0 : ∀ p, B.md = some p → ¬ NoO H0 p.2) (s : Shared) (H : Hp) (C : Addr) (cl : List (Str × Addr)) (fp : List Addr), DPs (X.blk s H scope (compEnvC scope cl C X.env) fp) ⟨B.K, B.md, F0, H0, a0⟩ ifs tt dt)
    (he : ∀ (F0 H0 : Hp) (a0 : ∀ p, B.md = some p → ¬ NoO H0 p.2) (s : Shared) (H : Hp) (C : Addr) (cl : List (Str × Addr)) (fp : List Addr), DE (X.blk s H scope (compEnvC scope cl C X.env) fp) ⟨B.K, B.md, F0, H0, a0⟩ elt te' de)
    (hsl : ∀ j ∈ sl, j ∈ own.map (·.2)) (s0 : Shared) (hs : ∀ x, foldedSetIterable iter X.env x = pure x := by intro _; rfl) : DS X B (.Assign [.Name y py] (.ListComp elt [⟨tg, iter, ifs, 0⟩] scope pos) spos) (tAsg (tLc wi g tt te' (own.map (·.2))) (gName i)) (dSetF i (dLc (own.map (·.2)) ti dg dt de)) := by
  refine ⟨ps_setLc hc hN hy hyl hsw hi.pi ok (fun s H C cl fp => ?_) (fun s H C cl fp => ?_) (fun s H C cl fp => ?_) hs, sim_setF (lc_sim hi.sim hsl (fun F0 H0 a0 => (hg F0 H0 a0 s0 H0 0 [] []).sim) (fun F0 H0 a0 => (ht F0 H0 a0 s0 H0 0 [] []).sim) (fun F0 H0 a0 => (he F0 H0 a0 s0 H0 0 [] []).sim))⟩
  · exact (hg B.F0 B.H0 B.a0 s H C cl fp).pg
  · exact (ht B.F0 B.H0 B.a0 s H C cl fp).pts
  · exact (he B.F0 B.H0 B.a0 s H C cl fp).pe
theorem ds_lcO {i : Nat} {y : Str} {py spos : Pos} (h : DS X B (.Assign [.Name y py] (.ListComp elt [⟨tg, iter, ifs, 0⟩] scope pos) spos) (tAsg (tLc wi g tt te' (own.map (·.2))) (gName i)) (dSetF i (dLc (own.map (·.2)) ti dg dt de)))
    (s : Sim B (tLc wi g tt te' (own.map (·.2))) (dLc (own.map (·.2)) ti dg dt de)) : DS X B (.Assign [.Name y py] (.ListComp elt [⟨tg, iter, ifs, 0⟩] scope pos) spos) (tAsg (tLc wi g tt te' (own.map (·.2))) (gName i)) (dSetO i (dLc (own.map (·.2)) ti dg dt de)) := ⟨h.ps, sim_setO s⟩
end
/-! ### for, while -/
def dForL (g : DGT) (tb : DST) (E : DEnds) : List D → En → Prop
  | [], ρ => E.nx ρ
  | d :: ds, ρ => g d ρ fun ρ1 => tb { E with nx := dForL g tb E ds, ct := dForL g tb E ds, bk := E.nx } ρ1
def dFor (ti : DIT) (g : DGT) (tb : DST) : DST := fun E ρ => ti ρ fun ds ρ1 => dForL g tb E ds ρ1
section
variable {X : Cx} {B : Bs} {tg iter : Expr} {body : List Stmt} {wi : TI} {g : TG} {tb : TS} {ti : DIT} {dg : DGT} {td : DST} {sl : List Nat} {pos : Pos}
theorem ds_for (hp : PassesOwn (model X.prog X.w) X.A X.env X.xe) (hc : X.calm = true) (hi : DI X B tg iter wi ti) (hg : DG X B tg sl g dg) (hb : DSs X B body tb td) (hs : ∀ x, foldedSetIterable iter X.env x = pure x := by intro _; rfl) :
    DS X B (.For tg iter body [] pos) (tFor wi g tb) (dFor ti dg td) := by
  refine ⟨ps_for hp hc hi.pi hg.pg hb.ps hs, fun F ρ σ H D E l w k => hi.sim F ρ σ H _ _ l w fun J ds F1 ρ1 H1 l1 s1 kp wd p => ?_⟩
  obtain ⟨G, Y, wk, hG, hY⟩ := wd.ex
  refine for_it wk (g := g) (tb := tb) (D := E) (fun i σ2 H2 => ∃ (F2 : Hp) (ρ2 : En), Rel B F2 ρ2 σ2 H2 ∧ Same F1 F2 ∧ dForL dg td D (ds.drop i) ρ2) ⟨F1, ρ1, l1, Same.refl _, p⟩ (fun i σ2 H2 _ ⟨F2, ρ2, l2, s2, _⟩ => hG F2 ρ2 σ2 H2 l2 s2) ?_ ?_
  · rintro i x σ2 H2 H3 hi' ⟨F2, ρ2, l2, s2, p2⟩ y
    obtain ⟨d, F3, ed, l3, s3, rv3, _, _⟩ := hY i F2 ρ2 σ2 H2 x H3 l2 s2 hi' y
    have hl := (List.getElem?_eq_some_iff.mp ed).1
    rw [List.drop_eq_getElem_cons hl, (List.getElem?_eq_some_iff.mp ed).2] at p2
    refine hg.sim F3 ρ2 σ2 H3 x d _ _ l3 rv3 p2 fun F4 ρ4 σ4 H4 l4 s4 o4 p4 => ?_
    refine hb.sim F4 ρ4 σ4 H4 _ _ l4 p4 ⟨fun F5 ρ5 σ5 H5 l5 s5 q => ⟨F5, ρ5, l5, s2.trans (s3.trans (s4.trans s5)), q⟩, k.rt, fun F5 ρ5 σ5 H5 l5 s5 q => k.nx F5 ρ5 σ5 H5 l5 (s1.trans (s2.trans (s3.trans (s4.trans s5)))) q, fun F5 ρ5 σ5 H5 l5 s5 q => ⟨F5, ρ5, l5, s2.trans (s3.trans (s4.trans s5)), q⟩⟩
  · rintro σ2 H2 ⟨F2, ρ2, l2, s2, p2⟩
    rw [List.drop_length] at p2
    exact k.nx F2 ρ2 σ2 H2 l2 (s1.trans s2) p2
def dWhile (c : DBT) (tb : DST) : DST := fun E ρ => ∃ W : Nat → En → Prop, (∃ m, W m ρ) ∧ ∀ m ρ, W m ρ → c ρ fun b ρ1 => if b = true then tb { E with nx := fun ρ2 => ∃ m', m' < m ∧ W m' ρ2, ct := fun ρ2 => ∃ m', m' < m ∧ W m' ρ2, bk := E.nx } ρ1 else E.nx ρ1
theorem ds_while {c : Expr} {tT : TT} {tc : DBT} (hp : PassesOwn (model X.prog X.w) X.A X.env X.xe) (hc : DTs X B c tT tc) (hb : DSs X B body tb td) : DS X B (.While c body [] pos) (tWhile tT tb) (dWhile tc td) := by
  refine ⟨ps_while hp hc.pt hb.ps, fun F ρ σ H D E l w k => ?_⟩
  obtain ⟨W, ⟨m, w0⟩, step⟩ := w
  refine ⟨fun m σ2 H2 => ∃ (F2 : Hp) (ρ2 : En), Rel B F2 ρ2 σ2 H2 ∧ Same F F2 ∧ W m ρ2, ⟨m, F, ρ, l, Same.refl _, w0⟩, ?_⟩
  rintro m σ2 H2 ⟨F2, ρ2, l2, s2, w2⟩
  refine hc.sim F2 ρ2 σ2 H2 _ _ l2 (step m ρ2 w2) fun b F3 ρ3 H3 l3 s3 kp p => ?_
  cases b with
  | false => exact k.nx F3 ρ3 σ2 H3 l3 (s2.trans s3) p
  | true =>
    refine ⟨fun σ4 H4 => ∃ m', m' < m ∧ ∃ (F2 : Hp) (ρ2 : En), Rel B F2 ρ2 σ4 H4 ∧ Same F F2 ∧ W m' ρ2, fun σ4 H4 q => q, ?_⟩
    refine hb.sim F3 ρ3 σ2 H3 _ _ l3 p ⟨fun F5 ρ5 σ5 H5 l5 s5 ⟨m', hm, q⟩ => ⟨m', hm, F5, ρ5, l5, s2.trans (s3.trans s5), q⟩, k.rt, fun F5 ρ5 σ5 H5 l5 s5 q => k.nx F5 ρ5 σ5 H5 l5 (s2.trans (s3.trans s5)) q, fun F5 ρ5 σ5 H5 l5 s5 ⟨m', hm, q⟩ => ⟨m', hm, F5, ρ5, l5, s2.trans (s3.trans s5), q⟩⟩
end
/-! ## a def keeps its promise -/
def startD (N : List Str) (ds : List D) : En := ds.map (fun d => some (OV.dat d)) ++ List.replicate (N.length - ds.length) none
theorem start_rel {B : Bs} {N : List Str} {vs : List V} {ds : List D} (h : BOk B) (a : RvA B.K B.hd B.F0 vs ds) : Rel B B.F0 (startD N ds) (L2.start N vs) B.H0 := by
  have hv := h.after
  have key : ∀ (i : Nat) (o : OV), (startD N ds)[i]? = some (some o) → ∃ d, o = .dat d ∧ ds[i]? = some d := fun i o e => by
    unfold startD at e
    by_cases hi : i < ds.length
    · rw [List.getElem?_append_left (by simpa using hi), List.getElem?_map] at e
      have e2 : ds[i]? = some ds[i] := by simp [hi]
      rw [e2] at e
      cases e
      exact ⟨_, rfl, e2⟩
    · rw [List.getElem?_append_right (by simpa using hi), List.getElem?_replicate] at e
      split at e <;> cases e
  refine ⟨by unfold startD L2.start; simp [a.len], h.sb, Same.refl _, hv.2.2.1, hv.2.2.2.1, hv.2.2.2.2, fun i o e => ?_, fun i j o o' v e e' w => ?_⟩
  · obtain ⟨d, rfl, ed⟩ := key i o e
    obtain ⟨v, ev, rv⟩ := a.get' ed
    refine ⟨v, ?_, rv⟩
    unfold L2.start
    have hl := (List.getElem?_eq_some_iff.mp ev).1
    rw [List.getElem?_append_left (by simpa using hl), List.getElem?_map, ev]
    rfl
  · obtain ⟨d, rfl, _⟩ := key i o e
    cases w
section
variable {P : Program} {w : World} {K : PySem.W.Frag} {mg : Str → Option Value} {base : Heap} {x qual : Str} {st : Stmt} {f : Addr} {fd : FuncData} {N ps : List Str} {k : Nat} {W : DW}
theorem sp_len (hlen : ∀ ds Q ex, W ds Q ex → ds.length = ps.length) : ∀ vs H Q E, spD K W vs H Q E → vs.length = ps.length := fun vs H Q E h => by
  obtain ⟨B, ds, P, ex, rfl, rfl, ok, a, w, _⟩ := h
  rw [a.len]
  exact hlen ds _ _ w
theorem sp_body {vs : List V} {Q : VK} {B : Bs} {ds : List D} {P' : R → Prop} {tS : TS} {t : DST} (ok : BOk B) (a : RvA B.K B.hd B.F0 vs ds) (hk : ∀ r v F' H', P' r → After B F' H' → RvC B F' H' v r → Q v H') (s : SimS B tS t)
    (w : t { nx := fun _ => P' (.dat .non), rt := P' } (startD N ds)) : tS { nx := fun _ H' => Q .non H', rt := Q } (L2.start N vs) B.H0 :=
  s B.F0 _ _ B.H0 _ _ (start_rel ok a) w ⟨fun F' ρ' σ' H' l _ p => hk _ _ F' H' p l.to .non, fun r v F' H' a rv p => hk r v F' H' p a rv, fun _ _ _ _ _ _ p => p.elim, fun _ _ _ _ _ _ p => p.elim⟩
theorem okD (F : Fun K x qual st f fd) (S : FnScope N ps (defScope st)) (hlen : ∀ ds Q ex, W ds Q ex → ds.length = ps.length)
    (hb : ∀ (cdv : Value) (A : Around) (outer : List PySem.Env) (s : Shared) (H : Hp) (E : XK), Room k (A.deeper (PyProof.Rows.envOfC qual (defScope st) s.heap.objs.size f cdv)) → ∀ (md : Option (Addr × Addr)) (F0 : Hp) (a0 : ∀ p, md = some p → ¬ NoO H p.2),
      ∃ tS t, DSs (cxOf CX0 P w K mg base N qual (defScope st) f cdv A outer s H E).nox ⟨K, md, F0, H, a0⟩ (defBody st) tS t ∧ ∀ ds Q ex, W ds Q ex → t { nx := fun _ => Q (.dat .non), rt := Q } (startD N ds)) : FnOk P w K mg base CX0 (k + 1) f fd ps (spD K W) := by
  refine F.ok S (sp_len hlen) fun cdv A outer s H vs Q E hr h => ?_
  obtain ⟨⟨K', md, F0, H0, a0⟩, ds, P', ex, rfl, rfl, ok, a, w, hk, _⟩ := h
  obtain ⟨tS, t, d, q⟩ := hb cdv A outer s H0 E hr md F0 a0
  exact ⟨tS, d.ps, sp_body ok a hk d.sim (q ds P' ex w)⟩
theorem okDD {dvs : List V} {kws : List (Str × V)} (F : FunD K x qual (defArgs st) (defBody st) (defScope st) dvs kws f fd) (S : FnScope N ps (defScope st)) (hlen : ∀ ds Q ex, W ds Q ex → ds.length = ps.length)
    (hb : ∀ (cdv : Value) (A : Around) (outer : List PySem.Env) (s : Shared) (H : Hp) (E : XK), Room k (A.deeper (PyProof.Rows.envOfC qual (defScope st) s.heap.objs.size f cdv)) → ∀ (md : Option (Addr × Addr)) (F0 : Hp) (a0 : ∀ p, md = some p → ¬ NoO H p.2),
      ∃ tS t, DSs (cxOf CX0 P w K mg base N qual (defScope st) f cdv A outer s H E) ⟨K, md, F0, H, a0⟩ (defBody st) tS t ∧ ∀ ds Q ex, W ds Q ex → t { nx := fun _ => Q (.dat .non), rt := Q } (startD N ds)) : FnOk P w K mg base CX0 (k + 1) f fd ps (spD K W) := by
  refine F.ok S (sp_len hlen) fun cdv A outer s H vs Q E hr h => ?_
  obtain ⟨⟨K', md, F0, H0, a0⟩, ds, P', ex, rfl, rfl, ok, a, w, hk, _⟩ := h
  obtain ⟨tS, t, d, q⟩ := hb cdv A outer s H0 E hr md F0 a0
  exact ⟨tS, d.ps, sp_body ok a hk d.sim (q ds P' ex w)⟩
theorem okDX (F : Fun K x qual st f fd) (S : FnScope N ps (defScope st)) (hlen : ∀ ds Q ex, W ds Q ex → ds.length = ps.length)
    (hb : ∀ (cdv : Value) (A : Around) (outer : List PySem.Env) (s : Shared) (H : Hp) (E : XK), Room k (A.deeper (PyProof.Rows.envOfC qual (defScope st) s.heap.objs.size f cdv)) → ∀ (md : Option (Addr × Addr)) (F0 : Hp) (a0 : ∀ p, md = some p → ¬ NoO H p.2) (ex : EXD), LX ⟨K, md, F0, H, a0⟩ ex E →
      ∃ tS t, DSs (cxOf (L2.CX P w) P w K mg base N qual (defScope st) f cdv A outer s H E) ⟨K, md, F0, H, a0⟩ (defBody st) tS t ∧ ∀ ds Q, W ds Q ex → t { nx := fun _ => Q (.dat .non), rt := Q } (startD N ds)) : FnOk P w K mg base (L2.CX P w) (k + 1) f fd ps (spD K W) := by
  refine F.okX S (sp_len hlen) fun cdv A outer s H vs Q E hr h => ?_
  obtain ⟨⟨K', md, F0, H0, a0⟩, ds, P', ex, rfl, rfl, ok, a, w, hk, hl⟩ := h
  obtain ⟨tS, t, d, q⟩ := hb cdv A outer s H0 E hr md F0 a0 ex hl
  exact ⟨tS, d.ps, sp_body ok a hk d.sim (q ds P' w)⟩
end
end Z

set_option Elab.async false
set_option linter.all false
set_option maxRecDepth 100000
namespace Z
open PySem L2
variable [TabsP]
/-! ## lists that names own -/
section
variable {B : Bs} {F F' H H' : Hp} {ρ ρ' : En} {σ : L2.St}
theorem set_same_get {α : Type} {l : List α} {i : Nat} {x : α} (e : l[i]? = some x) : l.set i x = l := by
  refine List.ext_getElem? fun j => ?_
  by_cases hj : j = i
  · subst hj
    rw [List.getElem?_set_self (List.getElem?_eq_some_iff.mp e).1, e]
  · rw [List.getElem?_set_ne (Ne.symm hj)]
/-- an own object changes -/
theorem Rel.mutO (l : Rel B F ρ σ H) {i : Nat} {o : OV} (e : ρ[i]? = some (some o)) (wo : o.isOwn = true) {p : Addr} (es : σ[i]? = some (some (.ref p))) {u : HO} {o' : OV} (h : RvO B F (L2.upd H p u) (.ref p) o') : Rel B F (ρ.set i (some o')) σ (L2.upd H p u) := by
  obtain ⟨p', u', e1, h1, n, n0, _⟩ := l.own e wo
  rw [es] at e1
  cases e1
  have ne : ∀ (j : Nat) (o2 : OV), (ρ.set i none)[j]? = some (some o2) → o2.isOwn = true → σ[j]? ≠ some (some (V.ref p)) := fun j o2 e2 w2 z => by
    rcases get_set e2 with ⟨_, q, _⟩ | ⟨hj, q⟩
    · cases q
    · exact hj (l.ap j i o2 o _ q e w2 wo z es)
  have l2 := ((l.drop i).upd (u := u) n n0 ne (fun w hw => (l.var i _ e).elim fun v ⟨ev, hv⟩ => by rw [es] at ev; cases ev; exact hv.kt wo rfl w hw)).set (i := i) (v := .ref p) (o := o') h fun _ j o2 e2 w2 => ne j o2 e2 w2
  rw [set_same_get es, set_none_some] at l2
  exact l2
theorem Rel.mutL (l : Rel B F ρ σ H) {i : Nat} {ds : List D} (e : ρ[i]? = some (some (.own ds))) : ∃ p vs, σ[i]? = some (some (.ref p)) ∧ H p = some (.lst vs) ∧ RvA B.K B.hd F vs ds ∧ ∀ vs' ds', RvA B.K B.hd F vs' ds' → Rel B F (ρ.set i (some (.own ds'))) σ (L2.upd H p (.lst vs')) := by
  obtain ⟨v, es, p, vs, rfl, h1, h2, n, n0⟩ := l.var i _ e
  exact ⟨p, vs, es, h1, h2, fun vs' ds' a => l.mutO e rfl es ⟨p, vs', rfl, upd_same, a, n, n0⟩⟩
theorem Kp.set {i : Nat} {o o' : OV} (e : ρ[i]? = some (some o)) : Kp ρ (ρ.set i (some o')) := fun j o2 e2 => by
  by_cases hj : j = i
  · subst hj
    exact ⟨o', List.getElem?_set_self (List.getElem?_eq_some_iff.mp e2).1⟩
  · exact ⟨o2, by rw [List.getElem?_set_ne (Ne.symm hj)]; exact e2⟩
end
def isOwnL (ρ : En) (i : Nat) : Prop := match ρ[i]? with
  | some (some (.own _)) => True
  | _ => False
theorem isOwnL_of {ρ : En} {i : Nat} (h : isOwnL ρ i) : ∃ ds, ρ[i]? = some (some (.own ds)) := by
  unfold isOwnL at h
  match e : ρ[i]?, h with
  | some (some (.own ds)), _ => exact ⟨ds, rfl⟩
/-- with what the slot owns -/
def ownAt (ρ : En) (i : Nat) (P : List D → Prop) : Prop := match ρ[i]? with
  | some (some (.own ds)) => P ds
  | _ => False
theorem ownAt_of {ρ : En} {i : Nat} {P : List D → Prop} (h : ownAt ρ i P) : ∃ ds, ρ[i]? = some (some (.own ds)) ∧ P ds := by
  unfold ownAt at h
  match e : ρ[i]?, h with
  | some (some (.own ds)), h => exact ⟨ds, rfl, h⟩
def dApp (i : Nat) (te : DT) : DT := fun ρ P => isOwnL ρ i ∧ te ρ fun r ρ1 => ownAt (mvE ρ1 r) i fun ds => ds.length < sizeLine ∧ P (.dat .non) ((mvE ρ1 r).set i (some (.own (ds ++ [vl ρ1 r]))))
def dExt (i : Nat) (te : DT) : DT := fun ρ P => isOwnL ρ i ∧ te ρ fun r ρ1 => ownAt (mvE ρ1 r) i fun ds => ∃ es, vl ρ1 r = .lst es ∧ ds.length + es.length ≤ sizeLine ∧ P (.dat .non) ((mvE ρ1 r).set i (some (.own (ds ++ es))))
def R63 (i : Int) : Prop := -(2 ^ 63) ≤ i ∧ i < 2 ^ 63
def dPop (i : Nat) (te : DT) : DT := fun ρ P => isOwnL ρ i ∧ te ρ fun r ρ1 => ownAt ρ1 i fun ds => ∃ j k d, r = .dat (.int j) ∧ R63 j ∧ seqIndex? j ds.length = some k ∧ ds[k]? = some d ∧ P (.dat d) (ρ1.set i (some (.own (ds.eraseIdx k))))
section
variable {X : Cx} {B : Bs} {o e : Expr} {tE : TE} {te : DT} {i : Nat} {apos cpos : Pos}
theorem own_ty {F H : Hp} {ρ : En} {σ : L2.St} (l : Rel B F ρ σ H) (h : isOwnL ρ i) : ∃ p, σ[i]? = some (some (.ref p)) ∧ tyV B.K "list" (.ref p) H := by
  obtain ⟨ds, e⟩ := isOwnL_of h
  obtain ⟨p, vs, es, h1, _⟩ := l.mutL e
  exact ⟨p, es, .inl ⟨rfl, _, SqL.of h1⟩⟩
theorem de_append (ho : PE X o (tVar i)) (h : DE X B e tE te) (hK : X.K = B.K := by rfl) (hbase : attributeBase o "append" X.env (eval o X.env) = eval o X.env := by rfl)
    (hfew : ((backTo cpos (starEach [e] X.env)).all (fun x => !x.1) && (backToKw cpos (keywordEach [] X.env)).all (fun x => x.1.isSome) && decide ([e].length + ([] : List Keyword).length + (if ([] : List Keyword).isEmpty then 0 else 1) < 30)) = true := by rfl)
    (hline : (apos.endLine == cpos.line) = true := by rfl) (hs : starEach [e] X.env = (false, eval e X.env) :: starEach [] X.env := by rfl) (hpl : (backTo cpos (starEach [] X.env)).any (·.1) = false := by rfl) :
    DE X B (.Call (.Attribute o "append" apos) [e] [] cpos) (tBM B.K "list" rAppend (tVar i) (tCons tE tNil)) (dApp i te) := by
  refine ⟨by rw [← hK]; exact pe_bm PySem.F.plainAttrs_list PySem.F.slot_list_append PySem.F.type_list_append mt_append ho (pa_cons h.pe pa_nil hs) hbase hfew hline hs hpl, fun F ρ σ H P Q l w k => ?_⟩
  obtain ⟨p, es, ty⟩ := own_ty l w.1
  refine ⟨_, es, ty, h.sim.frz F ρ σ H _ _ l w.2 fun r v F' ρ' H' l' s kp rv q => ?_⟩
  obtain ⟨F2, s2, l2, v2⟩ := l'.mv rv
  obtain ⟨ds, e1, hz, q⟩ := ownAt_of q
  obtain ⟨p', vs, es', h1, h2, m⟩ := l2.mutL e1
  rw [es] at es'
  cases es'
  refine ⟨p, vs, v, rfl, rfl, h1, by rw [h2.len]; exact hz, ?_⟩
  exact k (.dat .non) .non F2 _ _ (m _ _ (h2.app (.cons v2 .nil))) (s.trans s2) (kp.trans (Kp.mv.trans (Kp.set e1))) .non q
theorem de_extend (ho : PE X o (tVar i)) (h : DE X B e tE te) (hK : X.K = B.K := by rfl) (hbase : attributeBase o "extend" X.env (eval o X.env) = eval o X.env := by rfl)
    (hfew : ((backTo cpos (starEach [e] X.env)).all (fun x => !x.1) && (backToKw cpos (keywordEach [] X.env)).all (fun x => x.1.isSome) && decide ([e].length + ([] : List Keyword).length + (if ([] : List Keyword).isEmpty then 0 else 1) < 30)) = true := by rfl)
    (hline : (apos.endLine == cpos.line) = true := by rfl) (hs : starEach [e] X.env = (false, eval e X.env) :: starEach [] X.env := by rfl) (hpl : (backTo cpos (starEach [] X.env)).any (·.1) = false := by rfl) :
    DE X B (.Call (.Attribute o "extend" apos) [e] [] cpos) (tBM B.K "list" rExtend (tVar i) (tCons tE tNil)) (dExt i te) := by
  refine ⟨by rw [← hK]; exact pe_bm PySem.F.plainAttrs_list PySem.F.slot_list_extend PySem.F.type_list_extend mt_extend ho (pa_cons h.pe pa_nil hs) hbase hfew hline hs hpl, fun F ρ σ H P Q l w k => ?_⟩
  obtain ⟨p, es, ty⟩ := own_ty l w.1
  refine ⟨_, es, ty, h.sim.frz F ρ σ H _ _ l w.2 fun r v F' ρ' H' l' s kp rv q => ?_⟩
  obtain ⟨F2, s2, l2, v2⟩ := l'.mv rv
  obtain ⟨ds, e1, fs, ev, hz, q⟩ := ownAt_of q
  obtain ⟨p', vs, es', h1, h2, m⟩ := l2.mutL e1
  rw [es] at es'
  cases es'
  rw [ev] at v2
  cases v2 with
  | lst a1 a2 =>
    refine ⟨p, _, vs, _, rfl, rfl, h1, l2.sub _ _ a1, by rw [h2.len, a2.len]; exact hz, ?_⟩
    exact k (.dat .non) .non F2 _ _ (m _ _ (h2.app a2)) (s.trans s2) (kp.trans (Kp.mv.trans (Kp.set e1))) .non q
theorem de_pop (ho : PE X o (tVar i)) (h : DE X B e tE te) (hK : X.K = B.K := by rfl) (hbase : attributeBase o "pop" X.env (eval o X.env) = eval o X.env := by rfl)
    (hfew : ((backTo cpos (starEach [e] X.env)).all (fun x => !x.1) && (backToKw cpos (keywordEach [] X.env)).all (fun x => x.1.isSome) && decide ([e].length + ([] : List Keyword).length + (if ([] : List Keyword).isEmpty then 0 else 1) < 30)) = true := by rfl)
    (hline : (apos.endLine == cpos.line) = true := by rfl) (hs : starEach [e] X.env = (false, eval e X.env) :: starEach [] X.env := by rfl) (hpl : (backTo cpos (starEach [] X.env)).any (·.1) = false := by rfl) :
    DE X B (.Call (.Attribute o "pop" apos) [e] [] cpos) (tBM B.K "list" rPopAt (tVar i) (tCons tE tNil)) (dPop i te) := by
  refine ⟨by rw [← hK]; exact pe_bm PySem.F.plainAttrs_list PySem.F.slot_list_pop PySem.F.type_list_pop mt_popAt ho (pa_cons h.pe pa_nil hs) hbase hfew hline hs hpl, fun F ρ σ H P Q l w k => ?_⟩
  obtain ⟨p, es, ty⟩ := own_ty l w.1
  refine ⟨_, es, ty, h.sim F ρ σ H _ _ l w.2 fun r v F' ρ' H' l' s kp rv q => ?_⟩
  obtain ⟨ds, e1, j, kk, d, rfl, r63, hj, hd, q⟩ := ownAt_of q
  obtain ⟨p', vs, es', h1, h2, m⟩ := l'.mutL e1
  rw [es] at es'
  cases es'
  cases rv
  obtain ⟨y, ey, ry⟩ := h2.get' hd
  refine ⟨p, vs, j, kk, y, rfl, rfl, h1, r63.1, r63.2, by rw [h2.len]; exact hj, ey, ?_⟩
  exact k (.dat d) y F' _ _ (m _ _ (h2.erase kk)) s (kp.trans (Kp.set e1)) ry q
end
/-! ### some built-ins by values -/
section
variable {X : Cx} {B : Bs}
def dInt : List D → (R → Prop) → Prop
  | [.int i], P => P (.dat (.int i))
  | [.bl b], P => P (.dat (.int (if b then 1 else 0)))
  | _, _ => False
theorem cad_int : CaD B (fun xs H Q => (∃ i, xs = [V.int i] ∧ Q (.int i) H) ∨ ∃ k, xs = [V.bl k] ∧ Q (.int (if k then 1 else 0)) H) dInt := by
  intro F ρ σ H xs ds P Q l a w k
  match ds, w with
  | [.int i], w =>
    obtain ⟨v, rfl, r⟩ := a.one
    cases r
    exact .inl ⟨i, rfl, k (.dat _) _ F H l (Same.refl _) (.int _) w⟩
  | [.bl b], w =>
    obtain ⟨v, rfl, r⟩ := a.one
    cases r
    exact .inr ⟨b, rfl, k (.dat _) _ F H l (Same.refl _) (.int _) w⟩
def dAbs : List D → (R → Prop) → Prop
  | [.int i], P => P (.dat (.int (if i < 0 then -i else i)))
  | _, _ => False
theorem cad_abs : CaD B (fun xs H Q => ∃ i, xs = [V.int i] ∧ Q (.int (if i < 0 then -i else i)) H) dAbs := by
  intro F ρ σ H xs ds P Q l a w k
  match ds, w with
  | [.int i], w =>
    obtain ⟨v, rfl, r⟩ := a.one
    cases r
    exact ⟨i, rfl, k (.dat _) _ F H l (Same.refl _) (.int _) w⟩
theorem RvA.bls {K : PySem.W.Frag} {hd : Option Addr} {F : Hp} : ∀ {bs : List Bool} {vs : List V}, RvA K hd F vs (bs.map D.bl) → vs = bs.map V.bl
  | [], _, h => by cases h; rfl
  | n :: ns, _, h => by
    cases h with
    | cons a b =>
      cases a
      rw [RvA.bls b]
      rfl
def dAny (all : Bool) (ds : List D) (P : R → Prop) : Prop := ∃ bs : List Bool, ds = [.lst (bs.map D.bl)] ∧ P (.dat (.bl (if all then bs.all id else bs.any id)))
theorem kall (K : PySem.W.Frag) (hc : X.calm = true) (h : X.K = K := by rfl) : CallR X (.builtin "all") (rAll K) := by
  rw [← h]
  exact cr_all hc
theorem ksum (K : PySem.W.Frag) (hc : X.calm = true) (h : X.K = K := by rfl) : CallR X (.builtin "sum") (rSum K) := by
  rw [← h]
  exact cr_sum hc
theorem cad_any : CaD B (rAny B.K) (dAny false) := by
  intro F ρ σ H xs ds P Q l a ⟨bs, e, w⟩ k
  subst e
  obtain ⟨v, rfl, r⟩ := a.one
  cases r with
  | lst a1 a2 =>
    obtain rfl := a2.bls
    exact ⟨_, bs, rfl, SqL.of (l.sub _ _ a1), k (.dat _) _ F H l (Same.refl _) (.bl _) w⟩
theorem cad_all : CaD B (rAll B.K) (dAny true) := by
  intro F ρ σ H xs ds P Q l a ⟨bs, e, w⟩ k
  subst e
  obtain ⟨v, rfl, r⟩ := a.one
  cases r with
  | lst a1 a2 =>
    obtain rfl := a2.bls
    exact ⟨_, bs, rfl, SqL.of (l.sub _ _ a1), k (.dat _) _ F H l (Same.refl _) (.bl _) w⟩
def dSum (ds : List D) (P : R → Prop) : Prop := ∃ ns : List Int, ds = [.lst (ns.map D.int)] ∧ P (.dat (.int ns.sum))
theorem cad_sum : CaD B (rSum B.K) dSum := by
  intro F ρ σ H xs ds P Q l a ⟨ns, e, w⟩ k
  subst e
  obtain ⟨v, rfl, r⟩ := a.one
  cases r with
  | lst a1 a2 =>
    obtain rfl := a2.ints
    exact ⟨_, ns, rfl, SqL.of (l.sub _ _ a1), k (.dat _) _ F H l (Same.refl _) (.int _) w⟩
/-! ### list[int] * n -/
def dRep : D → D → (R → Prop) → Prop
  | .lst ds, .int k, P => R63 k ∧ ds.length * k.toNat ≤ sizeLine ∧ P (.new (List.replicate k.toNat ds).flatten)
  | _, _, _ => False
theorem rva_rep {K : PySem.W.Frag} {hd : Option Addr} {F : Hp} {vs : List V} {ds : List D} (h : RvA K hd F vs ds) : ∀ n : Nat, RvA K hd F (List.replicate n vs).flatten (List.replicate n ds).flatten
  | 0 => .nil
  | n + 1 => by
    rw [List.replicate_succ, List.replicate_succ, List.flatten_cons, List.flatten_cons]
    exact h.app (rva_rep h n)
theorem opd_rep : OpD B rRep dRep := by
  intro F ρ σ H x y dx dy P Q l a b w k
  cases dx <;> cases dy <;> first | exact w.elim | skip
  cases a with
  | lst a1 a2 =>
    cases b
    obtain ⟨w1, w2, w3⟩ := w
    refine ⟨_, _, _, rfl, rfl, l.sub _ _ a1, w1.1, w1.2, by rw [a2.len]; exact w2, fun p np => ?_⟩
    obtain ⟨l3, n3⟩ := l.newL np (rva_rep a2 _)
    exact k (.new _) _ _ _ l3 (Same.refl _) n3 w3
/-! ### xs.index(x) of flat items -/
theorem RvA.atV {K : PySem.W.Frag} {hd : Option Addr} {F : Hp} {ds : List D} {vs : List V} (h : RvA K hd F vs ds) (f : ds.all flatD = true) (j : Nat) : vs[j]? = (ds[j]?).map vOf := by
  rw [(h.flat f).1, List.getElem?_map]
end
end Z

set_option Elab.async false
set_option linter.all false
set_option maxRecDepth 100000
namespace Z
open PySem L2
variable [TabsP]
/-! ## tuples that are known to be plain: made out of a list -/
theorem call_tupX {X : Cx} : CallR X (.type "tuple") (fun xs H Q => ∃ p ys, xs = [.ref p] ∧ ((H p = some (.lst ys) ∧ ∀ l o, H l = none → o.dict = none → Q (.ref l) (L2.upd H l (.frz o (.tup ys)))) ∨ (SqT X.K H p ys ∧ Q (.ref p) H))) := by
  intro pins s σ H xs us Q I r h
  obtain ⟨p, ys, rfl, ⟨hp, q⟩ | ⟨hq, q⟩⟩ := h
  · cases r with
    | cons r1 r2 =>
      cases r2
      cases r1
      obtain ⟨its, rv, pl, hz⟩ := I.list (SqL.of hp)
      refine PySem.call_tuple_list pl.isList (fun h' hk => ?_) (by rw [List.size_toArray, ← rv.length]; exact hz)
      have I1 : Inv X pins σ H { s with heap := h' } := I.kept (t' := s.toks) hk
      have I2 := I1.laid (t' := s.toks) (o := .frz { cls := .type "tuple", data := .seq its.toArray } (.tup ys)) (h' := h'.push { cls := .type "tuple", data := .seq its.toArray }) (a := h'.objs.size) (fun b o e => Heap.get?_push_of_some _ e) (Nat.le_refl _)
        ⟨Heap.get?_push_size _ rfl, hz, its, rv, ⟨_, Heap.get?_push_size _ rfl, rfl, _, rfl⟩⟩
      exact ⟨.ref h'.objs.size, _, I2, rfl, q _ _ (I1.hok.fresh (Nat.le_refl _)) rfl⟩
  · exact call_tuple_of pins s σ H _ us Q I r ⟨p, ys, rfl, .inr ⟨hq, q⟩⟩
def rTupX (K : PySem.W.Frag) : List V → Hp → VK → Prop := fun xs H Q => ∃ p ys, xs = [.ref p] ∧ ((H p = some (.lst ys) ∧ ∀ l o, H l = none → o.dict = none → Q (.ref l) (L2.upd H l (.frz o (.tup ys)))) ∨ (SqT K H p ys ∧ Q (.ref p) H))
theorem ktupX {X : Cx} (K : PySem.W.Frag) (h : X.K = K := by rfl) : CallR X (.type "tuple") (rTupX K) := by
  rw [← h]
  exact call_tupX
def tpxOfD : D → Option D
  | .lst ds => some (.tpx ds)
  | .tup ds => some (.tup ds)
  | .tpx ds => some (.tpx ds)
  | _ => none
def dTupX : List D → (R → Prop) → Prop
  | [a], P => match tpxOfD a with
    | some d => P (.dat d)
    | none => False
  | _, _ => False
theorem cad_tupX {B : Bs} : CaD B (rTupX B.K) dTupX := by
  intro F ρ σ H xs ds P Q l a w k
  match ds, w with
  | [d], w =>
    obtain ⟨v, rfl, r⟩ := a.one
    cases d <;> first | exact w.elim | skip
    · cases r with
      | lst a1 a2 =>
        refine ⟨_, _, rfl, .inl ⟨l.sub _ _ a1, fun q o nq ho => ?_⟩⟩
        obtain ⟨l3, s3⟩ := l.newF (u := .frz o (.tup _)) nq
        exact k (.dat (.tpx _)) _ _ _ l3 s3 (Rv.tpx upd_same ho (a2.mono s3)) w
    · cases r with
      | tup a1 a2 => exact ⟨_, _, rfl, .inr ⟨Same.sqT l.sub a1, k (.dat (.tup _)) _ F H l (Same.refl _) (Rv.tup a1 a2) w⟩⟩
    · cases r with
      | tpx a1 e1 a2 => exact ⟨_, _, rfl, .inr ⟨.inl (.inr ⟨_, l.sub _ _ a1⟩), k (.dat (.tpx _)) _ F H l (Same.refl _) (Rv.tpx a1 e1 a2) w⟩⟩
/-! ## index of a list, of a plain tuple -/
def rIdxT (K : PySem.W.Frag) (p : Addr) (y : V) (H : Hp) (Q : VK) : Prop := ∃ (ys : List V) (j : Nat) (z : V), SqT K H p ys ∧ flatV y = true ∧ ys.all flatV = true ∧ ys[j]? = some z ∧ eqV z y = true ∧ (∀ (m : Nat) (z' : V), m < j → ys[m]? = some z' → eqV z' y = false) ∧ Q (.int (j : Nat)) H
theorem tup_index {X : Cx} {pins : List (Addr × Obj)} {s : Shared} {σ : L2.St} {H : Hp} {p : Addr} {y : V} {uy : Value} {Q : VK} (I : Inv X pins σ H s) (ry : RelV y uy) (h : rIdxT X.K p y H Q) :
    wpAny (model X.prog X.w) X.A (call (.builtin "tuple.index") [.ref p, uy]) (EP X pins σ Q) X.xe s := by
  obtain ⟨ys, j, z, hq, fy, fys, hz, hzj, hno, q⟩ := h
  obtain ⟨its, rv, pl, hl⟩ := I.tuple hq
  obtain ⟨⟨cls, dd, dt, sl⟩, ho, hc, n, hd⟩ := pl
  simp only at hc hd
  subst hc
  subst hd
  have get : ∀ (m : Nat) (hm : m < its.toArray.size), ∃ v, ys[m]? = some v ∧ eqU y its.toArray[m] = eqV v y := fun m hm => by
    have hm2 : m < ys.length := by rw [rv.length]; simpa using hm
    have e1 : ys[m]? = some ys[m] := List.getElem?_eq_getElem hm2
    obtain ⟨u, hu, ru⟩ := rv.get e1
    refine ⟨_, e1, ?_⟩
    have e2 : its.toArray[m] = u := by
      have := (List.getElem?_eq_some_iff.mp hu).2
      simpa using this
    rw [e2]
    exact eqU_of ru (flat_at fys e1)
  have hj : j < its.toArray.size := by
    have := (List.getElem?_eq_some_iff.mp hz).1
    rw [rv.length] at this
    simpa using this
  refine call_meets PySem.F.slot_tuple_index ⟨_, ho, rfl⟩ PySem.F.entry_tuple_index (PySem.F.args_tuple_index_2 _ _) (TI.tuple_indexAt p its.toArray n dd sl uy (eqU y) j hj ?_ ?_)
    ⟨ho, fun u' hu' => mem_eqAt ry fy rv fys u' (by simpa using hu'), ⟨.int (j : Nat), H, I.tok _, ⟨_, rfl⟩, q⟩⟩
  · obtain ⟨v, e1, e2⟩ := get j hj
    rw [hz] at e1
    cases e1
    rw [e2]
    exact hzj
  · intro m hm hmj
    obtain ⟨v, e1, e2⟩ := get m hm
    rw [e2]
    exact hno m v hmj e1
def tIdxA (K : PySem.W.Frag) (tA tB : TE) : TE := fun σ H Q => tA σ H fun x H1 => ∃ p, x = .ref p ∧ (((∃ xs, SqL K H1 p xs) ∧ tB σ H1 fun y H2 => rIndex K (.ref p) [y] H2 Q) ∨ ((∃ o xs, H1 p = some (.frz o (.tup xs)) ∧ o.dict = none) ∧ tB σ H1 fun y H2 => rIdxT K p y H2 Q))
theorem pe_idxA {X : Cx} {a b : Expr} {tA tB : TE} {apos cpos : Pos} (ha : PE X a tA) (hb : PE X b tB) (hbase : attributeBase a "index" X.env (eval a X.env) = eval a X.env)
    (hfew : ((backTo cpos (starEach [b] X.env)).all (fun x => !x.1) && (backToKw cpos (keywordEach [] X.env)).all (fun x => x.1.isSome) && decide ([b].length + ([] : List Keyword).length + (if ([] : List Keyword).isEmpty then 0 else 1) < 30)) = true)
    (hline : (apos.endLine == cpos.line) = true) (hs : starEach [b] X.env = (false, eval b X.env) :: starEach [] X.env) (hpl : (backTo cpos (starEach [] X.env)).any (·.1) = false) : PE X (.Call (.Attribute a "index" apos) [b] [] cpos) (tIdxA X.K tA tB) := by
  refine ⟨fun pins s σ H Q I h => ?_⟩
  refine wpAny_Call_method_late hbase hfew hline rfl (thn (ha.run pins s σ H _ I h) fun v s1 ⟨x, H1, I1, r1, p, ex, q1⟩ => ?_)
  subst ex
  obtain rfl : v = .ref p := r1
  have hargs : ∀ {id : String} {T : V → Hp → Prop}, tB σ H1 T → (∀ uy y s2 H2, Inv X pins σ H2 s2 → RelV y uy → T y H2 → wpAny (model X.prog X.w) X.A (call (.builtin id) [.ref p, uy]) (EP X pins σ Q) X.xe s2) →
      wpAny (model X.prog X.w) X.A (callWith cpos (.builtin id) [.ref p] (backTo cpos (starEach [b] X.env)) (backToKw cpos (keywordEach [] X.env))) (EP X pins σ Q) X.xe s1 := fun {id T} w k => by
    have hA := one_arg (pos := cpos) (Q := fun us s2 => wpAny (model X.prog X.w) X.A (call (.builtin id) (.ref p :: us)) (EP X pins σ Q) X.xe s2) hb I1 w (fun u s2 y H2 I2 ry q => k u y s2 H2 I2 ry q) hs
    rw [hs] at hA ⊢
    exact Calls.callWith_builtin (by show (false || (backTo cpos (starEach [] X.env)).any (·.1)) = false; rw [hpl] <;> rfl) (Calls.evalArgs_plain hA)
  rcases q1 with ⟨⟨xs, hl⟩, q⟩ | ⟨⟨o, xs, hl, hd⟩, q⟩
  · obtain ⟨its, rv, pl, _⟩ := I1.list hl
    refine ⟨"list", "list.index", PySem.F.plainAttrs_list, PySem.F.slot_list_index, PySem.F.type_list_index, pl.isList.typeIs, fun a e => ?_, hargs q fun uy y s2 H2 I2 ry h => ?_⟩
    · cases e
      obtain ⟨o, n, e, c, hd, _⟩ := pl
      exact ⟨o, e, hd⟩
    · exact mt_index pins s2 σ H2 (.ref p) [y] (.ref p) [uy] Q I2 rfl (.cons ry .nil) h
  · have ok := I1.hok p _ hl
    obtain ⟨ho, _, its, rv, pl⟩ := ok
    refine ⟨"tuple", "tuple.index", PySem.F.plainAttrs_tuple, PySem.F.slot_tuple_index, PySem.F.type_tuple_index, ?_, fun a e => ?_, hargs q fun uy y s2 H2 I2 ry h => tup_index I2 ry h⟩
    · obtain ⟨o2, e2, c2, _⟩ := pl
      exact ⟨o2, e2, c2⟩
    · cases e
      exact ⟨o, ho, hd⟩
def IdxAt (ds : List D) (a : D) (j : Nat) : Prop := flatD a = true ∧ ds.all flatD = true ∧ ∃ z, ds[j]? = some z ∧ eqV (vOf z) (vOf a) = true ∧ ∀ m z', m < j → ds[m]? = some z' → eqV (vOf z') (vOf a) = false
def dIdx (ta tb : DT) : DT := fun ρ P => ta ρ fun r1 ρ1 => (∃ es, vl ρ1 r1 = .lst es ∧ tb ρ1 fun r2 ρ2 => ∃ ds j, vl ρ2 r1 = .lst ds ∧ IdxAt ds (vl ρ2 r2) j ∧ P (.dat (.int (j : Nat))) ρ2) ∨
  (∃ es, vl ρ1 r1 = .tpx es ∧ tb ρ1 fun r2 ρ2 => ∃ ds j, vl ρ2 r1 = .tpx ds ∧ IdxAt ds (vl ρ2 r2) j ∧ P (.dat (.int (j : Nat))) ρ2)
theorem kidxA {X : Cx} {a b : Expr} {tA tB : TE} {apos cpos : Pos} (K : PySem.W.Frag) (hK : X.K = K) (h : PE X (.Call (.Attribute a "index" apos) [b] [] cpos) (tIdxA X.K tA tB)) : PE X (.Call (.Attribute a "index" apos) [b] [] cpos) (tIdxA K tA tB) := by
  subst hK
  exact h
theorem idx_at {K : PySem.W.Frag} {hd : Option Addr} {F : Hp} {vs : List V} {ds : List D} {v : V} {a : D} {j : Nat} (h : RvA K hd F vs ds) (ha : Rv K hd F v a) (q : IdxAt ds a j) : ∃ z, flatV v = true ∧ vs.all flatV = true ∧ vs[j]? = some z ∧ eqV z v = true ∧ ∀ (m : Nat) (z' : V), m < j → vs[m]? = some z' → eqV z' v = false := by
  obtain ⟨q1, q2, z, q3, q4, q5⟩ := q
  obtain ⟨rfl, f1⟩ := ha.flat q1
  obtain ⟨rfl, f2⟩ := h.flat q2
  refine ⟨vOf z, f1, f2, by rw [List.getElem?_map, q3]; rfl, q4, fun m z' hm e => ?_⟩
  rw [List.getElem?_map] at e
  cases e1 : ds[m]? with
  | none => rw [e1] at e; cases e
  | some y =>
    rw [e1] at e
    cases e
    exact q5 m y hm e1
theorem nn_fz {r : R} : ∀ ds, fz r ≠ .new ds := by
  intro ds
  cases r <;> (intro z; cases z)
theorem de_index (K : PySem.W.Frag) {X : Cx} {B : Bs} {a b : Expr} {tA tB : TE} {ta tb : DT} {apos cpos : Pos} (ha : DE X B a tA ta) (hb : DE X B b tB tb) (hK : X.K = K := by rfl) (hB : B.K = K := by rfl) (hbase : attributeBase a "index" X.env (eval a X.env) = eval a X.env := by rfl)
    (hfew : ((backTo cpos (starEach [b] X.env)).all (fun x => !x.1) && (backToKw cpos (keywordEach [] X.env)).all (fun x => x.1.isSome) && decide ([b].length + ([] : List Keyword).length + (if ([] : List Keyword).isEmpty then 0 else 1) < 30)) = true := by rfl)
    (hline : (apos.endLine == cpos.line) = true := by rfl) (hs : starEach [b] X.env = (false, eval b X.env) :: starEach [] X.env := by rfl) (hpl : (backTo cpos (starEach [] X.env)).any (·.1) = false := by rfl) :
    DE X B (.Call (.Attribute a "index" apos) [b] [] cpos) (tIdxA K tA tB) (dIdx ta tb) := by
  subst hB
  refine ⟨kidxA B.K hK (pe_idxA ha.pe hb.pe hbase hfew hline hs hpl), fun F ρ σ H P Q l w k => ha.sim.frz F ρ σ H _ _ l w fun r1 v1 F1 ρ1 H1 l1 s1 k1 rv1 p => ?_⟩
  have v1' := l1.val rv1 nn_fz
  rw [vl_fz] at v1'
  have next : ∀ {r2 : R} {v2 : V} {F2 : Hp} {ρ2 : En} {H2 : Hp}, Rel B F2 ρ2 σ H2 → Same F1 F2 → Kp ρ1 ρ2 → RvR B F2 ρ2 σ H2 v2 (fz r2) → Rv B.K B.hd (Z.lend F2 ρ2 σ H2) v1 (vl ρ2 r1) ∧ Rv B.K B.hd (Z.lend F2 ρ2 σ H2) v2 (vl ρ2 r2) := fun {r2 v2 F2 ρ2 H2} l2 s2 k2 rv2 => by
    have q1 := l2.val (RvR.mono rv1 s2 k2) nn_fz
    have q2 := l2.val rv2 nn_fz
    rw [vl_fz] at q1 q2
    exact ⟨q1, q2⟩
  rcases p with ⟨es, e1, p⟩ | ⟨es, e1, p⟩
  · rw [e1] at v1'
    cases v1' with
    | lst a1 a2 =>
      refine ⟨_, rfl, .inl ⟨⟨_, SqL.of (l1.lend.sub _ _ a1)⟩, hb.sim.frz F1 ρ1 σ H1 _ _ l1 p fun r2 v2 F2 ρ2 H2 l2 s2 k2 rv2 ⟨ds, j, e2, ix, q⟩ => ?_⟩⟩
      obtain ⟨q1, q2⟩ := next l2 s2 k2 rv2
      rw [e2] at q1
      cases q1 with
      | lst b1 b2 =>
        obtain ⟨z, f1, f2, f3, f4, f5⟩ := idx_at b2 q2 ix
        exact ⟨_, _, _, j, z, rfl, rfl, SqL.of (l2.lend.sub _ _ b1), f1, f2, f3, f4, f5, k (.dat _) _ F2 ρ2 H2 l2 (s1.trans s2) (k1.trans k2) (.int _) q⟩
  · rw [e1] at v1'
    cases v1' with
    | tpx a1 e9 a2 =>
      refine ⟨_, rfl, .inr ⟨⟨_, _, l1.lend.sub _ _ a1, e9⟩, hb.sim.frz F1 ρ1 σ H1 _ _ l1 p fun r2 v2 F2 ρ2 H2 l2 s2 k2 rv2 ⟨ds, j, e2, ix, q⟩ => ?_⟩⟩
      obtain ⟨q1, q2⟩ := next l2 s2 k2 rv2
      rw [e2] at q1
      cases q1 with
      | tpx b1 _ b2 =>
        obtain ⟨z, f1, f2, f3, f4, f5⟩ := idx_at b2 q2 ix
        exact ⟨_, j, z, .inl (.inr ⟨_, l2.lend.sub _ _ b1⟩), f1, f2, f3, f4, f5, k (.dat _) _ F2 ρ2 H2 l2 (s1.trans s2) (k1.trans k2) (.int _) q⟩
end Z

set_option Elab.async false
set_option linter.all false
set_option maxRecDepth 100000
namespace ZT
open PySem PySem.Spec PyProof.Rows L2
/-! ## tuple(d), d a dict: its keys -/
section
variable {prog : Program} {w : World} {A : Around} {E : Value → Shared → Prop} {s : Shared} {T : String} {r d : Addr} {n : Nat} {G : Nat → Value → Prop} {OK : Heap → Prop}
theorem collect_src {Q : List Value → Shared → Prop} (Y : PySem.W.KdlSrc prog w T r d n G OK) (hh : A.handled = none) (ok : OK s.heap) (hn : n ≤ sizeLine)
    (k : ∀ (g : Heap) (tk : Nat) (xs : Array Value), (∀ b o, s.heap.get? b = some o → g.get? b = some o) → ItemsOf G xs n → Q xs.toList { s with heap := g, toks := tk }) : wpAny (model prog w) A (collect (.ref r)) Q E s := by
  unfold collect
  apply wpAny_bind
  apply wpAny_runValue
  apply codeAny_builtin F.entry_proto_collect
  rw [Around.under_plainId F.plain_proto_collect _]
  change wpAny _ A.in1 (newList [] >>= fun l => again (.builtin "list.__iadd__" ⟨[l, .ref r], []⟩)) _ _ s
  apply wpAny_bind
  refine wpAny_newObj_type ?_
  refine wpAny_pure ⟨plainId_quiet F.plain_list_iadd _, ?_⟩
  apply codeAny_builtin F.entry_list_iadd
  rw [Around.under_plainId F.plain_list_iadd _]
  change wpAny _ A.in1 (Builtin.List.listExtendWith (.ref s.heap.objs.size) (.ref r) (.ref s.heap.objs.size)) _ _ _
  have lt := Y.there _ ok
  have kp : ∀ b o, s.heap.get? b = some o → (s.heap.push { cls := .type "list", data := .seq ([] : List Value).toArray }).get? b = some o := fun b o e => Heap.get?_push_of_some _ e
  have new : (s.heap.push { cls := .type "list", data := .seq ([] : List Value).toArray }).get? s.heap.objs.size = some { cls := .type "list", data := .seq #[] 0 } := Heap.get?_push_size _ rfl
  have go := PySem.W.kdl_extend (A := A) (R := fun rr t => rr = .ok (.ret (.ref s.heap.objs.size)) ∧ ∃ (g : Heap) (tk : Nat) (xs : Array Value) (c : Nat), t = { s with heap := g, toks := tk } ∧ (∀ b o, s.heap.get? b = some o → g.get? b = some o) ∧
      g.get? s.heap.objs.size = some { cls := .type "list", dict := none, data := .seq xs c, slots := #[] } ∧ ItemsOf G xs n)
    (s := { s with heap := s.heap.push { cls := .type "list", data := .seq ([] : List Value).toArray } }) Y hh (Y.keep _ _ ok fun b _ o e => kp b o e) s.heap.objs.size (Nat.ne_of_gt lt.1) (Nat.ne_of_gt lt.2) (.ref s.heap.objs.size) 0 new
    (fun g tk xs c h1 h2 h3 => ⟨rfl, g, tk, xs, c, rfl, fun b o e => h1 b o (Nat.ne_of_lt (Heap.lt_size e)) (kp b o e), h2, h3⟩) hn
  refine wpAny_mono go (fun fin t h => ?_) (fun e t h => ?_)
  · cases fin with
    | again c =>
      refine ⟨h.1, codeAny_mono h.2 fun rr t' h' => ?_⟩
      obtain ⟨rfl, g, tk, xs, c', rfl, h1, h2, h3⟩ := h'
      change wpAny _ A (load s.heap.objs.size >>= _) _ _ _
      exact wpAny_bind (wpAny_load h2 (wpAny_pure (k g tk xs h1 h3)))
    | done f =>
      obtain ⟨e, g, tk, xs, c', rfl, h1, h2, h3⟩ := h
      cases e
      change wpAny _ A (load s.heap.objs.size >>= _) _ _ _
      exact wpAny_bind (wpAny_load h2 (wpAny_pure (k g tk xs h1 h3)))
  · exact absurd h.1 (by simp)
theorem code_tup_src {Q₁ : Value → Shared → Prop} (hT : (T == "range") = (T == "range")) (Y : PySem.W.KdlSrc prog w T r d n G OK) (hh : A.handled = none) (ok : OK s.heap) (hn : n ≤ sizeLine) (hd : T = "dict")
    (k : ∀ (g : Heap) (tk : Nat) (xs : Array Value), (∀ b o, s.heap.get? b = some o → g.get? b = some o) → ItemsOf G xs n → Q₁ (.ref g.objs.size) { s with heap := g.push { cls := .type "tuple", data := .seq xs }, toks := tk }) :
    codeAny (model prog w) A (.call (.builtin "tuple.__new__") ⟨[.type "tuple", .ref r], []⟩) (wants Q₁ E) s := by
  subst hd
  apply codeAny_of_tree
  change wpAny _ A.in1 (do checkBuiltinCall "tuple.__new__" ⟨[.type "tuple", .ref r], []⟩; again (.builtin "tuple.__new__" ⟨[.type "tuple", .ref r], []⟩)) _ _ s
  refine wpAny_bind (wpAny_of_eq (F.newCall_tuple_1 _) (wpAny_pure ⟨plainId_quiet F.plain_tuple_new _, ?_⟩))
  apply codeAny_builtin F.entry_tuple_new
  rw [Around.under_plainId F.plain_tuple_new _]
  have hsub := sub_tuple_self
  have hinit := init_tuple_lookup
  have hmh := madeHere_tuple
  have ty := Y.type s ok
  have hh1 : A.in1.handled = none := hh
  wp_walk using wpAny_typeOf ty, collect_src (A := A.in1) Y hh1 ok hn
  intro g tk xs h1 h3
  change wpAny _ _ (Builtin.Tuple.tupleExact xs.toList.toArray >>= fun v => ret v) _ _ _
  unfold Builtin.Tuple.tupleExact
  have e : xs.toList.toArray = xs := by simp
  rw [e]
  exact wpAny_bind (wpAny_newObj_type (wpAny_pure (k g tk xs h1 h3)) (by show xs.size ≤ sizeLine; rw [h3.1]; exact hn))
theorem call_tup_src {Q : Value → Shared → Prop} (Y : PySem.W.KdlSrc prog w "dict" r d n G OK) (hh : A.handled = none) (ok : OK s.heap) (hn : n ≤ sizeLine)
    (k : ∀ (g : Heap) (tk : Nat) (xs : Array Value), (∀ b o, s.heap.get? b = some o → g.get? b = some o) → ItemsOf G xs n → Q (.ref g.objs.size) { s with heap := g.push { cls := .type "tuple", data := .seq xs }, toks := tk }) :
    wpAny (model prog w) A (call (.type "tuple") [.ref r]) Q E s := by
  refine callType_codes (Q₁ := fun obj t => t.TypeIs obj "tuple" ∧ Q obj t) F.called_tuple (F.typeCall_tuple_1 _) F.entry_object_init
    (code_tup_src (A := A.in1) rfl Y hh ok hn rfl fun g tk xs h1 h2 => ⟨⟨_, Heap.get?_push_size _ rfl, rfl⟩, k g tk xs h1 h2⟩) fun obj t h => ?_
  exact ⟨h.1, F.args_object_init_2 obj _, object_init_meets F.called_tuple.init.lookup F.called_tuple.made (by decide) prog w A.in1 _ t ⟨h.1, rfl, h.2⟩⟩
end
theorem call_tupD {X : Cx} (hc : X.calm = true) : CallR X (.type "tuple") (fun xs H Q => ∃ (a : Addr) (kvs : List (Key × V)), xs = [.ref a] ∧ H a = some (.dK kvs) ∧ ∀ p, H p = none → Q (.ref p) (L2.upd H p (.tup (kvs.map fun kv => kV kv.1)))) := by
  intro pins s σ H xs us Q I r q
  obtain ⟨a, kvs, rfl, hd, q⟩ := q
  obtain ⟨u, rfl, rx⟩ := vals1 r
  cases rx
  obtain ⟨z, lo, vs, rel, dd⟩ := dk_rd I.hok (.inl hd)
  obtain ⟨ep, hat⟩ := dd.dictAt
  have hlen : vs.length ≤ sizeLine := by rw [← rel.length]; exact z
  refine call_tup_src (PySem.W.kdl_dict (knd := mixKind X.prog X.w) (kvs := vs) (ep := ep) lo) (I.ok.hd hc) hat hlen fun g tk xs h1 h2 => ?_
  have ek : (kvs.map fun kv => kV kv.1) = vs.map fun p => kV p.1 := by
    have e := congrArg (List.map kV) rel.keys
    rw [List.map_map, List.map_map] at e
    exact e
  have hv : Vals (vs.map fun p => kV p.1) xs.toList := keys_at (by rw [Array.length_toList]; exact h2.1) fun j v e => h2.2 j v (by rw [← Array.getElem?_toList]; exact e)
  have I1 : Inv X pins σ H { s with heap := g, toks := tk } := I.kept (t' := tk) h1
  have I2 := I1.laid (t' := tk) (o := .tup (kvs.map fun kv => kV kv.1)) (h' := g.push { cls := .type "tuple", data := .seq xs }) (a := g.objs.size) (fun b o e => Heap.get?_push_of_some _ e) (Nat.le_refl _)
    ⟨by rw [List.length_map]; exact z, xs.toList, by rw [ek]; exact hv, ⟨_, Heap.get?_push_size _ rfl, rfl, 0, by simp⟩⟩
  exact ⟨.ref g.objs.size, _, I2, rfl, q _ (I1.hok.fresh (Nat.le_refl _))⟩
end ZT

set_option Elab.async false
set_option linter.all false
set_option maxRecDepth 100000
namespace ZT
open PySem PySem.Spec PyProof.Rows L2
/-! ## try .. except A as n: .. except B as n: .. -/
/-- the clauses: the class, the slot of its name (or none), the suite -/
abbrev Clause := Value × Option Nat × (Addr → Value → Option Addr → TS)
def nmE (D : Ends) : Option Nat → Ends
  | none => D
  | some i => { nx := fun τ G => D.nx (τ.set i none) G, rt := D.rt, bk := fun τ G => D.bk (τ.set i none) G, ct := fun τ G => D.ct (τ.set i none) G }
def nmS (τ : L2.St) (a : Addr) : Option Nat → L2.St
  | none => τ
  | some i => τ.set i (some (.ref a))
def wCl (K : PySem.W.Frag) (Wo : WX) (D : Ends) : List Clause → WX
  | [] => Wo
  | (c, o, ts) :: r => fun cl d τ G => ∃ b, PySem.W.exmOne K cl c = some b ∧ (b = true → ∀ a, G a = none → ts a cl d (nmE D o) (nmS τ a o) G) ∧ (b = false → wCl K Wo D r cl d τ G)
def NmOk (X : Cx) : Option Str → Option Nat → Prop
  | none, none => True
  | some n, some i => X.N[i]? = some n ∧ X.env.kindOf n = some .local
  | _, _ => False
inductive Cls (X : Cx) : List ExceptHandler → List Clause → Prop
  | nil : Cls X [] []
  | cons {x : Str} {c : Value} {nm : Option Str} {o : Option Nat} {ts : Addr → Value → Option Addr → TS} {st : Stmt} {sts : List Stmt} {p1 p2 : Pos} {hds : List ExceptHandler} {l : List Clause} (hc : Names X x c) (hn : NmOk X nm o)
      (hsu : ∀ (a : Addr) (ob : Obj) (cl : Value) (d : Option Addr) (pn : List (Addr × Obj)), Zc cl d ob → (∃ vs, ob.data = .fields vs) → PSs (X.suite a ((a, ob) :: pn)) (st :: sts) (ts a cl d)) (r : Cls X hds l) :
      Cls X (.ExceptHandler (some (.Name x p1)) nm (st :: sts) p2 :: hds) ((c, o, ts) :: l)
section
variable {X : Cx} {body : List Stmt} {h0 : ExceptHandler} {hds : List ExceptHandler} {l : List Clause} {pos : Pos} {tb : WX → TS} {Wo : WX}
theorem ps_tryC (hst : X.stack = X.env :: X.outer) (hfr : X.env.frame = some X.env.locals) (hN : X.N.Nodup) (tk : Takes X Wo)
    (hb : ∀ (W : WX) (pn : List (Addr × Obj)) (xe : Value → Shared → Prop), Takes (X.tr pn xe) W → PassesOwn (model X.prog X.w) X.A X.env xe → PSs (X.tr pn xe) body (tb W))
    (hh : Cls X (h0 :: hds) l) : PS X (.Try body (h0 :: hds) [] [] pos) (fun D τ G => tb (wCl X.K Wo D l) D τ G) := by
  constructor
  intro pins s τ G D J want
  have ok := J.ok
  have fr2 : X.A.frames = some (X.env :: X.outer) := by rw [ok.frames, hst]
  apply wpAny_Try_except
  refine wpAny_mono ((hb (wCl X.K Wo D l) (X.pn ++ pins) (fun e s₁ => wpAny (model X.prog X.w) X.A (noteFrame e X.env) (fun _ s₂ => wpAny (model X.prog X.w) X.A (setFlight e none) (fun _ s₃ =>
    wpAny (model X.prog X.w) X.A (handleBy e X.env (h0 :: hds)) (SP X pins D) X.xe s₃) X.xe s₂) X.xe s₁) (fun u t air => ?_) PassesOwn.looking).run [] s τ G D (J.toTry _) want) (fun f t fin => ?_) (fun _ _ z => z)
  · obtain ⟨a, B, sI, pins', τ1, G1, cl, d, rfl, J1, nb, up, sky, na, os, ag, ww⟩ := air
    have J2 : Inv X pins τ1 G1 sI := J1.ofTry ok
    have sky2 : Sky B (X.env :: X.outer) a (Zc cl d) X.env.locals t.heap := by rw [← hst]; exact sky
    change wpAny (model X.prog X.w) X.A (noteFrame (.ref a) X.env) _ _ _
    refine Sky.land Zc.steady fr2 hfr sky2 fun g fl u3 => ?_
    have J3 : Inv X pins τ1 G1 { t with heap := g } := J2.landed nb fl.1 (up.trans u3) os ag
    obtain ⟨ob, vs, hob, hz, hdt⟩ := fl.there
    have off : a ∉ frs (X.env :: X.outer) := fun hm => by
      obtain ⟨_, o2, e2, hnf⟩ := fl.2.2.1.mem hm
      rw [hob] at e2
      cases e2
      exact hnf _ hdt
    have off1 : a ≠ X.env.locals := fun z => off (List.mem_filterMap.mpr ⟨X.env, List.mem_cons_self, by rw [hfr, z]⟩)
    have off2 : a ∉ X.fs := fun hm => by
      obtain ⟨e, he, q⟩ := List.mem_filterMap.mp hm
      exact off (List.mem_filterMap.mpr ⟨e, List.mem_cons_of_mem _ he, q⟩)
    have S := J3.suite hob hdt na off1 off2
    have step : ∀ {hs2 : List ExceptHandler} {l2 : List Clause}, Cls X hs2 l2 → wCl X.K Wo D l2 cl d τ1 G1 → wpAny (model X.prog X.w) X.A (handleBy (.ref a) X.env hs2) (SP X pins D) X.xe { t with heap := g } := by
      intro hs2 l2 ck
      induction ck with
      | nil =>
        intro w2
        apply wpAny_handleBy_nil
        obtain ⟨_, _, _, o3, v3, T3, oT, t3, e3, z3, d3, f3, r3⟩ := id fl
        unfold PySem.passOn
        refine wpAny_bind (wpAny_field e3 d3 f3 ?_)
        rw [if_neg (show ¬ ((Value.ref T3 == Value.none) = true) from by simp)]
        have out : wpAny (model X.prog X.w) X.A (setFlight (.ref a) X.env.frame) (fun _ s4 => wpAny (model X.prog X.w) X.A (throw (.ref a) : Sem Flow) (SP X pins D) X.xe s4) X.xe { t with heap := g } := by
          rw [hfr]
          refine HandSPX.setFlight_upZ fl fun g4 hg4 u4 => wpAny_throw (tk _ _ ?_)
          exact ⟨a, B, sI, pins, τ1, G1, cl, d, rfl, J2, nb, (up.trans u3).trans u4, .inr (.inr (by rw [hst]; exact hg4)), na, os, ag, w2⟩
        first
          | exact wpAny_bind (wpAny_pure (wpAny_bind out))
          | exact wpAny_bind out
      | @cons x c nm o ts st sts p1 p2 hds3 l3 hc hn hsu _ ih =>
        intro w2
        obtain ⟨b, hb1, yes, no⟩ := w2
        refine wpAny_handleBy_cons (codeAny_handlers_test ?_) (by intro q; cases q)
        have look : PySem.W.Looks (model X.prog X.w) g (typeOf (.ref a)) cl := fun A Q E s k q => wpAny_typeOf_ref (k _ _ hob) (by rw [hz.1]; exact q)
        have mark := PySem.W.exm_one (M := model X.prog X.w) (J3.kIn) look hb1
        have named : ∀ {Q : Value → Shared → Prop} {E : Value → Shared → Prop}, Q c { t with heap := g } → wpAny (model X.prog X.w) (X.A.mark (some (.ref a))) (eval (.Name x p1) X.env) Q E { t with heap := g } := fun {Q E} q => by
          obtain ⟨hg, hdb, hm | ⟨hm, hv, hnn⟩⟩ := hc
          · exact ld_glob (X := X.suite a ((a, ob) :: (X.pn ++ pins))) S hg hm q hdb
          · exact ld_blt (X := X.suite a ((a, ob) :: (X.pn ++ pins))) S hg hm hv q hnn hdb
        refine named (mark.here ?_)
        cases b with
        | false =>
          change wpAny _ X.A (handleBy (.ref a) X.env hds3) _ _ _
          exact ih (no rfl)
        | true =>
          have go := yes rfl a na
          match nm, o, hn, go with
          | none, none, _, go =>
            apply codeAny_handlers_suite
            refine HandSPX.lands_againZ fl fun g4 fl4 u4 => ?_
            have J4 : Inv X pins τ1 G1 { t with heap := g4 } := J2.landed nb fl4.1 ((up.trans u3).trans u4) os ag
            obtain ⟨ob4, vs4, hob4, hz4, hd4⟩ := fl4.there
            have S4 := J4.suite hob4 hd4 na off1 off2
            refine wpAny_mono ((hsu a ob4 cl d (X.pn ++ pins) hz4 ⟨_, hd4⟩).run [] _ _ G1 _ S4 go) (fun f t6 q => ?_) (fun _ _ z => False.elim z)
            match f, q with
            | .next, ⟨_, _, S6, q6⟩ => exact ⟨_, _, S6.unsuite ok, q6⟩
            | .brk, ⟨_, _, S6, q6⟩ => exact ⟨_, _, S6.unsuite ok, q6⟩
            | .cont, ⟨_, _, S6, q6⟩ => exact ⟨_, _, S6.unsuite ok, q6⟩
            | .ret u, ⟨_, _, _, S6, r6, q6⟩ => exact ⟨_, _, _, S6.unsuite ok, r6, q6⟩
          | some n, some i, hn, go =>
            obtain ⟨hi, hln⟩ := hn
            apply codeAny_handlers_suite_as
            refine HandSPX.lands_againZ fl fun g4 fl4 u4 => ?_
            have J4 : Inv X pins τ1 G1 { t with heap := g4 } := J2.landed nb fl4.1 ((up.trans u3).trans u4) os ag
            obtain ⟨ob4, vs4, hob4, hz4, hd4⟩ := fl4.there
            have S4 := J4.suite hob4 hd4 na off1 off2
            refine store_ok (X := X.suite a ((a, ob4) :: (X.pn ++ pins))) (v := .ref a) S4 hN hi (.inl hln) rfl (fun t5 S5 => ?_) (.inr hln)
            refine wpAny_mono ((hsu a ob4 cl d (X.pn ++ pins) hz4 ⟨_, hd4⟩).run [] t5 _ G1 _ S5 go) (fun f t6 q => ?_) (fun _ _ z => False.elim z)
            have rest : ∀ {τ6 : L2.St} {G6 : Hp} {Q : Shared → Prop}, Inv (X.suite a ((a, ob4) :: (X.pn ++ pins))) [] τ6 G6 t6 → (∀ t7, Inv X pins (τ6.set i none) G6 t7 → Q t7) →
                wpAny (model X.prog X.w) X.A (do bindName X.env n .none; unbindBehindTheSuite X.env n p2) (fun _ t7 => Q t7) X.xe t6 := fun {τ6 G6 Q} S6 hq => gone_ok (S6.unsuite ok) hN hi hln hq
            match f, q with
            | .next, ⟨_, _, S6, q6⟩ => exact rest S6 fun t7 J7 => ⟨_, _, J7, q6⟩
            | .brk, ⟨_, _, S6, q6⟩ => exact rest S6 fun t7 J7 => ⟨_, _, J7, q6⟩
            | .cont, ⟨_, _, S6, q6⟩ => exact rest S6 fun t7 J7 => ⟨_, _, J7, q6⟩
            | .ret u, ⟨_, _, _, S6, r6, q6⟩ => exact rest S6 fun t7 J7 => ⟨_, _, _, J7, r6, q6⟩
          | none, some _, hn, _ => exact hn.elim
          | some _, none, hn, _ => exact hn.elim
    exact step hh ww
  · match f, fin with
    | .next, ⟨_, _, J1, q⟩ => exact wpAny_execs_nil ⟨_, _, J1.ofTry ok, q⟩
    | .brk, ⟨_, _, J1, q⟩ => exact ⟨_, _, J1.ofTry ok, q⟩
    | .cont, ⟨_, _, J1, q⟩ => exact ⟨_, _, J1.ofTry ok, q⟩
    | .ret u, ⟨_, _, _, J1, r, q⟩ => exact ⟨_, _, _, J1.ofTry ok, r, q⟩
end
end ZT

set_option Elab.async false
set_option linter.all false
set_option maxRecDepth 100000
namespace Z
open PySem L2
variable [TabsP]
/-! ## exceptions by values -/
abbrev EXE := Addr → List (Str × D) → En → Prop
def LXT (B : Bs) (exE : EXE) (W : WX) : Prop :=
  (∀ C (fs : List (Str × D)) d (fv : List (Str × V)) F ρ σ H, Rel B F ρ σ H → F d = some (.xd fv) → fv.map (·.1) = fs.map (·.1) → RvA B.K B.hd F (fv.map (·.2)) (fs.map (·.2)) → exE C fs ρ → W (.ref C) (some d) σ H) ∧
  ∀ C F ρ σ H, Rel B F ρ σ H → exE C [] ρ → W (.ref C) none σ H
theorem lxt_fn {B : Bs} {ex : EXD} {E : XK} (hl : LX B ex E) : LXT B (fun C fs _ => ex C fs) (fun c d _ H => E c d H) :=
  ⟨fun C fs d fv F ρ σ H l e1 e2 e3 q => hl.1 C fs d fv F H l.to e1 e2 e3 q, fun C F ρ σ H l q => hl.2 C F H l.to q⟩
section
variable {B : Bs} {F F' H H' : Hp} {ρ ρ' : En} {σ σ' : L2.St}
/-- what stands relative to a later base stands relative to the earlier one -/
theorem Rel.up (r : Rel B F ρ σ H) {a0 : ∀ p, B.md = some p → ¬ NoO H p.2} (r' : Rel ⟨B.K, B.md, F, H, a0⟩ F' ρ' σ' H') : Rel B F' ρ' σ' H' := by
  have s : Same F F' := r'.fro
  refine ⟨r'.len, r'.sb, r.fro.trans s, fun b hb => ?_, fun b o e n t => r'.kept b o (r.kept b o e n t) n t, fun p e => ?_, fun i o e => ?_, r'.ap⟩
  · rcases r'.new b hb with z | z
    · exact r.new b z
    · exact .inr (r.no0 z)
  · obtain ⟨h1, h2, _⟩ := r'.hnd p e
    exact ⟨h1, h2, (r.hnd p e).2.2⟩
  · obtain ⟨v, e1, h⟩ := r'.var i o e
    refine ⟨v, e1, ?_⟩
    cases o with
    | dat d => exact h
    | own ds =>
      obtain ⟨p, vs, ev, h1, h2, h3, h4⟩ := h
      exact ⟨p, vs, ev, h1, h2, h3, r.no0 h4⟩
    | dic ks ds =>
      obtain ⟨p, vs, ev, h1, h1', h2, h3, h4⟩ := h
      exact ⟨p, vs, ev, h1, h1', h2, h3, r.no0 h4⟩
theorem After.up (r : Rel B F ρ σ H) {a0 : ∀ p, B.md = some p → ¬ NoO H p.2} (a : After ⟨B.K, B.md, F, H, a0⟩ F' H') : After B F' H' := (r.after a).1.to
theorem RvC.up (r : Rel B F ρ σ H) {a0 : ∀ p, B.md = some p → ¬ NoO H p.2} {x : R} {v : V} (h : RvC ⟨B.K, B.md, F, H, a0⟩ F' H' v x) : RvC B F' H' v x := by
  cases x with
  | dat d => exact h
  | var i => exact h
  | new ds =>
    obtain ⟨p, vs, e, e1, ra, n, n0⟩ := h
    exact ⟨p, vs, e, e1, ra, n, r.no0 n0⟩
theorem Rel.noX (l : Rel B F ρ σ H) {b : Addr} {fv : List (Str × V)} (ow : Own ρ σ b) (e : H b = some (.xd fv)) : False := by
  obtain ⟨i, o, e1, w, es⟩ := ow
  obtain ⟨v, e2, h⟩ := l.var i o e1
  rw [es] at e2
  cases e2
  cases o with
  | dat d => cases w
  | own ds =>
    obtain ⟨p, vs, ev, h1, _⟩ := h
    cases ev
    rw [e] at h1; cases h1
  | dic ks ds =>
    obtain ⟨p, vs, ev, h1, _⟩ := h
    cases ev
    rw [e] at h1; cases h1
end
def dCallT (W : DW) (dd : List D) (exE : EXE) (u : DTA) : DT := fun ρ P => u ρ fun rs ρ1 => W (rs.map (vl ρ1) ++ dd) (fun r => bOk rs r ∧ P r ρ1) fun C fs => (rs.any R.isVar = true → noLA (fs.map (·.2)) = true) ∧ exE C fs ρ1
section
variable {X : Cx} {B : Bs} {x : Str} {k : Nat} {W : DW} {W' : WX} {exE : EXE} {e : Expr} {es : List Expr} {tA : TA} {u : DTA} {p pos : Pos} {dvs : List V} {dd : List D}
theorem sp_callT {F H : Hp} {ρ : En} {σ : L2.St} {vs : List V} {rs : List R} {P : R → Prop} {Q : VK} (l : Rel B F ρ σ H) (h : AllR B F ρ σ H vs rs) (hl : LXT B exE W') (hdv : ∀ F, RvA B.K B.hd F dvs dd)
    (w : W (rs.map (vl ρ) ++ dd) (fun r => bOk rs r ∧ P r) fun C fs => (rs.any R.isVar = true → noLA (fs.map (·.2)) = true) ∧ exE C fs ρ) (k : Kt B F ρ σ P Q) : spD B.K W (vs ++ dvs) H Q (WE W' σ) := by
  by_cases hb : rs.any R.isVar = true
  · have l1 := l.lend
    refine ⟨⟨B.K, B.md, _, H, l1.a0⟩, _, _, _, rfl, rfl, ⟨l1.sb, fun p e => ⟨(l1.hnd p e).1, (l1.hnd p e).2.1⟩⟩, (h.lent l).app (hdv _), w, fun r v F' H' ⟨bo, p⟩ a rv => ?_, fun C fs d fv F' H' a e1 e2 e3 q => ?_, fun C F' H' a q => ?_⟩
    · obtain ⟨l2, s2⟩ := l1.after a
      have rv2 := l1.afterR a rv
      obtain ⟨l3, s3, less⟩ := l.back s2 l2
      refine k r v _ H' l3 s3 ?_ p
      have n := bo hb
      cases r with
      | dat d => exact Rv.less less d v n rv2
      | var i => cases n
      | new ds => exact l.backNew s2 l2 rv2 n
    · obtain ⟨l2, s2⟩ := l1.after a
      obtain ⟨l3, s3, less⟩ := l.back s2 l2
      refine hl.1 C fs d fv _ ρ σ H' l3 ?_ e2 (RvA.less less _ _ (q.1 hb) e3) q.2
      rw [unlend_no]
      · exact e1
      · intro ow
        exact l3.noX ow (l2.sub _ _ e1)
    · obtain ⟨l2, s2⟩ := l1.after a
      obtain ⟨l3, s3, less⟩ := l.back s2 l2
      exact hl.2 C _ ρ σ H' l3 q.2
  · refine ⟨⟨B.K, B.md, F, H, l.a0⟩, _, _, _, rfl, rfl, ⟨l.sb, fun p e => ⟨(l.hnd p e).1, (l.hnd p e).2.1⟩⟩, (h.plain l (by simpa using hb)).app (hdv _), w, fun r v F' H' ⟨_, p⟩ a rv => k r v F' H' (l.after a).1 (l.after a).2 (l.afterR a rv) p, fun C fs d fv F' H' a e1 e2 e3 q => hl.1 C fs d fv F' ρ σ H' (l.after a).1 e1 e2 e3 q.2, fun C F' H' a q => hl.2 C F' ρ σ H' (l.after a).1 q.2⟩
theorem de_callT {K : PySem.W.Frag} (c : CalV X.prog X.w X.K X.mg X.base (L2.CX X.prog X.w) x k (spD K W) dvs) (hr : Room k X.A) (hg : Gl X x) (tk : Takes X W') (hl : LXT B exE W') (hdv : ∀ F, RvA B.K B.hd F dvs dd) (ha : DA X B (e :: es) tA u)
    (hB : B.K = K := by rfl) (hdb : (x == ("__debug__" : Str)) = false := by decide) (he : starEach (e :: es) X.env = (false, eval e X.env) :: starEach es X.env := by rfl) (hpl : (backTo pos (starEach es X.env)).any (·.1) = false := by rfl) :
    DE X B (.Call (.Name x p) (e :: es) [] pos) (tCallSD (spD K W) dvs (WE W') tA) (dCallT W dd exE u) := by
  subst hB
  obtain ⟨f, fd, ps, ds, hm, hk, hb, hv, FO⟩ := c.ex
  refine ⟨pe_callSD FO hr hg hm hk hb hv (fun σ => passAt tk σ) ha.pe hdb he hpl, fun F ρ σ H P Q l w k => ha.sim F ρ σ H _ _ l w fun rs vs F' ρ' H' l' s kp al q => ?_⟩
  exact sp_callT l' al hl hdv q fun r v F2 H2 l2 s2 rv p => k r v F2 ρ' H2 l2 (s.trans s2) kp rv p
end
/-! ### raise of an error with fields -/
def spEx (C : Addr) (fs : List Str) : Sp := fun vs H Q _ => ∃ (a : Addr) (xs : List V), vs = .ref a :: xs ∧ xs.length = fs.length ∧ H a = some (exo a C none) ∧
  ∀ d H', H d = none → d ≠ a → H' a = some (exo a C (some d)) → H' d = some (exd d (fs.zip xs).reverse) → (∀ b, b ≠ a → b ≠ d → H' b = H b) → Q .non H'
structure ExK (P : Program) (w : World) (K : PySem.W.Frag) (mg : Str → Option Value) (base : Heap) (x : Str) (C : Addr) (fs : List Str) : Prop where
  ex : ∃ (fI : Addr) (fd : FuncData) (ps : List Str), OexC K C ∧ mg x = some (.ref C) ∧ PySem.W.findIn K (.ref C) "__init__" = some (some (.ref fI)) ∧ PySem.W.typeIn K (.ref fI) = some (.type "function") ∧
    FnOk P w K mg base CX0 1 fI fd ps (spEx C fs) ∧ Binds K fd ps []
def dRaise (C : Addr) (fs : List Str) (exE : EXE) (u : DTA) : DST := fun _ ρ => u ρ fun rs ρ1 => rs.any R.isVar = false ∧ rs.length = fs.length ∧ fs.length ≤ 1000 ∧ exE C (fs.zip (rs.map (vl ρ1))).reverse ρ1
theorem RvA.rev {K : PySem.W.Frag} {hd : Option Addr} {F : Hp} : ∀ {ds : List D} {vs : List V}, RvA K hd F vs ds → RvA K hd F vs.reverse ds.reverse
  | [], _, h => by cases h; exact .nil
  | d :: ds, _, h => by
    cases h with
    | cons a b =>
      rw [List.reverse_cons, List.reverse_cons]
      exact (RvA.rev b).app (.cons a .nil)
theorem zip_snd {α β : Type} : ∀ {xs : List α} {ys : List β}, ys.length = xs.length → ((xs.zip ys).reverse).map (·.2) = ys.reverse ∧ ((xs.zip ys).reverse).map (·.1) = xs.reverse
  | [], [], _ => ⟨rfl, rfl⟩
  | x :: xs, y :: ys, h => by
    obtain ⟨h1, h2⟩ := zip_snd (xs := xs) (ys := ys) (by simpa using h)
    rw [List.zip_cons_cons, List.reverse_cons, List.map_append, List.map_append, h1, h2, List.reverse_cons, List.reverse_cons]
    exact ⟨rfl, rfl⟩
section
variable {X : Cx} {B : Bs} {x : Str} {C : Addr} {fs : List Str} {W' : WX} {exE : EXE} {e : Expr} {es : List Expr} {tA : TA} {u : DTA} {p pos pos' : Pos}
theorem ds_raise (T : ExK X.prog X.w X.K X.mg X.base x C fs) (tk : Takes X W') (hc : X.calm = true) (hr : Room 2 X.A) (hg : Gl X x) (hl : LXT B exE W') (ha : DA X B (e :: es) tA u)
    (hdb : (x == ("__debug__" : Str)) = false := by decide) (he : starEach (e :: es) X.env = (false, eval e X.env) :: starEach es X.env := by rfl) (hpl : (backTo pos (starEach es X.env)).any (·.1) = false := by rfl) :
    DS X B (.Raise (some (.Call (.Name x p) (e :: es) [] pos)) none pos') (fun _ σ H => tMkO C (spEx C fs) [] tA σ H fun c d H' => W' c d σ H') (dRaise C fs exE u) := by
  obtain ⟨fI, fd, ps, ox, gm, iC, tI, FO, hb⟩ := T.ex
  refine ⟨ps_raise hc tk (pmk_oex ox iC tI FO hr hb .nil (fun _ _ _ _ _ _ _ h => h.elim) hg gm ha.pe hdb he hpl), fun F ρ σ H D E l w k => ha.sim F ρ σ H _ _ l w fun rs vs F1 ρ1 H1 l1 s1 k1 al ⟨q1, q2, q3, q4⟩ => ?_⟩
  have lv : vs.length = fs.length := by rw [al.len, q2]
  have ra := al.plain l1 q1
  refine ⟨by rw [lv]; exact q3, fun a na => ⟨a, vs, by rw [List.append_nil], lv, upd_same, fun d H' nd da e1 e2 oth => ⟨rfl, d, _, e1, e2, ?_, ?_⟩⟩⟩
  · rw [upd_ne da] at nd
    exact nd
  · have nd1 : H1 d = none := by
      rw [upd_ne da] at nd
      exact nd
    have sH : Same H1 (upd (del H' a) d (.xd (fs.zip vs).reverse)) := fun b o eb => by
      have nb : b ≠ d := ne_of_none eb nd1
      have na' : b ≠ a := ne_of_none eb na
      rw [upd_ne nb, del_ne na', oth b na' nb, upd_ne na']
      exact eb
    have nF : F1 d = none := l1.noF nd1
    have l2 : Rel B (upd F1 d (.xd (fs.zip vs).reverse)) ρ1 σ (upd (del H' a) d (.xd (fs.zip vs).reverse)) := l1.grow (same_new nF) sH (fun b o eb => by
      by_cases h : b = d
      · subst h
        rw [upd_same] at eb ⊢
        exact eb
      · rw [upd_ne h] at eb
        exact sH _ _ (l1.sub _ _ eb)) (fun b hb => by
      by_cases h : b = d
      · subst h
        exact .inr nd1
      · rw [upd_ne h] at hb
        exact .inl hb) fun b ps eb => by
      by_cases h : b = d
      · subst h
        rw [upd_same] at eb
        cases eb
      · rw [upd_ne h] at eb
        rw [eb]
        simp
    have lr : (rs.map (vl ρ1)).length = fs.length := by rw [List.length_map, q2]
    obtain ⟨z1, z2⟩ := zip_snd (xs := fs) (ys := vs) lv
    obtain ⟨z3, z4⟩ := zip_snd (xs := fs) (ys := rs.map (vl ρ1)) lr
    refine hl.1 C _ d _ _ ρ1 σ _ l2 upd_same (by rw [z2, z4]) ?_ q4
    rw [z1, z3]
    exact (ra.mono (same_new nF)).rev
end
/-! ### try -/
def XF (B : Bs) (C : Addr) (fs : List (Str × D)) (d : Option Addr) : Prop := (∃ dd fv, d = some dd ∧ B.F0 dd = some (.xd fv) ∧ fv.map (·.1) = fs.map (·.1) ∧ RvA B.K B.hd B.F0 (fv.map (·.2)) (fs.map (·.2))) ∨ (fs = [] ∧ d = none)
abbrev MdT := Option (Addr × Addr)
abbrev ClD (md : MdT) := Value × Option Nat × ((F0 H0 : Hp) → (∀ p, md = some p → ¬ NoO H0 p.2) → Addr → Value → Option Addr → DST)
def nmD (D : DEnds) : Option Nat → DEnds
  | none => D
  | some i => { nx := fun ρ => D.nx (ρ.set i none), rt := D.rt, bk := fun ρ => D.bk (ρ.set i none), ct := fun ρ => D.ct (ρ.set i none) }
def nmR (ρ : En) (a : Addr) : Option Nat → En
  | none => ρ
  | some i => ρ.set i (some (.dat (.cls a)))
def disp (K : PySem.W.Frag) (md : MdT) (exO : EXE) (D : DEnds) : List (ClD md) → EXE
  | [] => exO
  | (c, o, t) :: r => fun C fs ρ => ∃ b, PySem.W.exmOne K (.ref C) c = some b ∧ (b = true → hasOwn ρ = false ∧ ∀ F0 H0 a0 a d, XF ⟨K, md, F0, H0, a0⟩ C fs d → t F0 H0 a0 a (.ref C) d (nmD D o) (nmR ρ a o)) ∧ (b = false → disp K md exO D r C fs ρ)
def dTry (K : PySem.W.Frag) (md : MdT) (td : EXE → DST) (hs : List (ClD md)) (exO : EXE) : DST := fun D ρ => hasOwn ρ = false ∧ td (disp K md exO D hs) D ρ
theorem dTry_go {K : PySem.W.Frag} {md : MdT} {td : EXE → DST} {cs : List (ClD md)} {exO : EXE} {D : DEnds} {ρ : En} (h0 : hasOwn ρ = false) (S : EXE → Prop) (h1 : S (disp K md exO D cs)) (h2 : ∀ X, S X → td X D ρ) : dTry K md td cs exO D ρ := ⟨h0, h2 _ h1⟩
inductive ClsD (X : Cx) (K : PySem.W.Frag) (md : MdT) : List ExceptHandler → List ZT.Clause → List (ClD md) → Prop
  | nil : ClsD X K md [] [] []
  | cons {x : Str} {c : Value} {nm : Option Str} {o : Option Nat} {ts : Addr → Value → Option Addr → TS} {st : Stmt} {sts : List Stmt} {p1 p2 : Pos} {hds : List ExceptHandler} {l : List ZT.Clause} {t : (F0 H0 : Hp) → (∀ p, md = some p → ¬ NoO H0 p.2) → Addr → Value → Option Addr → DST} {ds : List (ClD md)} (hc : Names X x c) (hn : ZT.NmOk X nm o)
      (hsu : ∀ (F0 H0 : Hp) (a0 : ∀ p, md = some p → ¬ NoO H0 p.2) (a : Addr) (ob : Obj) (cl : Value) (d : Option Addr) (pn : List (Addr × Obj)), Zc cl d ob → (∃ vs, ob.data = .fields vs) → DSs (X.suite a ((a, ob) :: pn)) ⟨K, md, F0, H0, a0⟩ (st :: sts) (ts a cl d) (t F0 H0 a0 a cl d)) (r : ClsD X K md hds l ds) :
      ClsD X K md (.ExceptHandler (some (.Name x p1)) nm (st :: sts) p2 :: hds) ((c, o, ts) :: l) ((c, o, t) :: ds)
theorem noOwn_dat {ρ : En} (h : hasOwn ρ = false) (i : Nat) (o : OV) (e : ρ[i]? = some (some o)) : o.isOwn = false := by
  cases w : o.isOwn with
  | false => rfl
  | true => rw [hasOwn_of e w] at h; cases h
section
variable {X : Cx} {B : Bs} {body : List Stmt} {h0 : ExceptHandler} {hds : List ExceptHandler} {l : List ZT.Clause} {cs : List (ClD B.md)} {pos : Pos} {tb : WX → TS} {td : EXE → DST} {Wo : WX} {exO : EXE}
theorem ClsD.cls (a00 : ∀ p, B.md = some p → ¬ NoO B.H0 p.2) {K : PySem.W.Frag} {hs : List ExceptHandler} (h : ClsD X K B.md hs l cs) : ZT.Cls X hs l := by
  induction h with
  | nil => exact .nil
  | cons hc hn hsu r ih => exact .cons hc hn (fun a ob cl d pn z1 z2 => (hsu B.F0 B.H0 a00 a ob cl d pn z1 z2).ps) ih
theorem cls_lxt {B1 : Bs} {D : DEnds} {E : Ends} {hs : List ExceptHandler} {lc : List ZT.Clause} {cd : List (ClD B1.md)} (h : ClsD X B1.K B1.md hs lc cd) (ko : LXT B1 exO Wo) (k : LkE B1 B1.F0 D E) :
    ∀ C (fs : List (Str × Z.D)) (d : Option Addr) F ρ σ H, Rel B1 F ρ σ H → ((∃ dd fv, d = some dd ∧ F dd = some (.xd fv) ∧ fv.map (·.1) = fs.map (·.1) ∧ RvA B1.K B1.hd F (fv.map (·.2)) (fs.map (·.2))) ∨ (fs = [] ∧ d = none)) → disp B1.K B1.md exO D cd C fs ρ → ZT.wCl B1.K Wo E lc (.ref C) d σ H := by
  induction h with
  | nil =>
    intro C fs d F ρ σ H l x q
    rcases x with ⟨dd, fv, rfl, e1, e2, e3⟩ | ⟨rfl, rfl⟩
    · exact ko.1 C fs dd fv F ρ σ H l e1 e2 e3 q
    · exact ko.2 C F ρ σ H l q
  | @cons x c nm o ts st sts p1 p2 hds lc t ds hc hn hsu r ih =>
    intro C fs d F ρ σ H l x q
    obtain ⟨b, hb, yes, no⟩ := q
    refine ⟨b, hb, fun e a na => ?_, fun e => ih C fs d F ρ σ H l x (no e)⟩
    obtain ⟨ho, go⟩ := yes e
    have sim := (hsu F H l.a0 a { cls := .ref C, dict := d, data := .fields #[] } (.ref C) d [] ⟨rfl, rfl⟩ ⟨_, rfl⟩).sim
    have lb := l.base (noOwn_dat ho) l.a0
    refine sim F (nmR ρ a o) (ZT.nmS σ a o) H (nmD D o) (ZT.nmE E o) ?_ (go F H l.a0 a d x) ?_
    · cases o with
      | none => exact lb
      | some i => exact lb.set (o := .dat (.cls a)) (.cls a) fun z => by cases z
    · have drop2 : ∀ {F' H' : Hp} {ρ' : En} {σ' : L2.St} (i : Nat), Rel B1 F' ρ' σ' H' → Rel B1 F' (ρ'.set i none) (σ'.set i none) H' := fun i r => r.wipe [i]
      refine ⟨fun F' ρ' σ' H' l' s p => ?_, fun r v F' H' a' rv p => ?_, fun F' ρ' σ' H' l' s p => ?_, fun F' ρ' σ' H' l' s p => ?_⟩
      · cases o with
        | none => exact k.nx F' ρ' σ' H' (l.up l') (l.fro.trans s) p
        | some i => exact k.nx F' _ _ H' (drop2 i (l.up l')) (l.fro.trans s) p
      · have := k.rt r v F' H' (After.up l a') (RvC.up l rv) (by cases o <;> exact p)
        cases o <;> exact this
      · cases o with
        | none => exact k.bk F' ρ' σ' H' (l.up l') (l.fro.trans s) p
        | some i => exact k.bk F' _ _ H' (drop2 i (l.up l')) (l.fro.trans s) p
      · cases o with
        | none => exact k.ct F' ρ' σ' H' (l.up l') (l.fro.trans s) p
        | some i => exact k.ct F' _ _ H' (drop2 i (l.up l')) (l.fro.trans s) p
theorem ds_try (hst : X.stack = X.env :: X.outer) (hfr : X.env.frame = some X.env.locals) (hN : X.N.Nodup) (tk : Takes X Wo) (ko : LXT B exO Wo)
    (hb : ∀ (F0 H0 : Hp) (a0 : ∀ p, B.md = some p → ¬ NoO H0 p.2) (W : WX) (pn : List (Addr × Obj)) (xe : Value → Shared → Prop), Takes (X.tr pn xe) W → ∀ exE, LXT ⟨B.K, B.md, F0, H0, a0⟩ exE W → DSs (X.tr pn xe) ⟨B.K, B.md, F0, H0, a0⟩ body (tb W) (td exE))
    (hh : ClsD X B.K B.md (h0 :: hds) l cs) (hK : X.K = B.K := by rfl) : DS X B (.Try body (h0 :: hds) [] [] pos) (fun D τ G => tb (ZT.wCl X.K Wo D l) D τ G) (dTry B.K B.md td cs exO) := by
  refine ⟨ZT.ps_tryC hst hfr hN tk (fun W pn xe tk po => ?_) (ClsD.cls B.a0 hh), fun F ρ σ H D E lr w k => ?_⟩
  · exact (hb B.F0 B.H0 B.a0 W pn xe tk (fun _ _ _ => False) ⟨fun _ _ _ _ _ _ _ _ _ _ _ _ q => q.elim, fun _ _ _ _ _ _ q => q.elim⟩).ps
  · obtain ⟨ho, w⟩ := w
    have l1 := lr.base (noOwn_dat ho) lr.a0
    have k1 : LkE ⟨B.K, B.md, F, H, lr.a0⟩ F D E := ⟨fun F' ρ' σ' H' l' s p => k.nx F' ρ' σ' H' (lr.up l') s p, fun r v F' H' a rv p => k.rt r v F' H' (After.up lr a) (RvC.up lr rv) p, fun F' ρ' σ' H' l' s p => k.bk F' ρ' σ' H' (lr.up l') s p, fun F' ρ' σ' H' l' s p => k.ct F' ρ' σ' H' (lr.up l') s p⟩
    have ko1 : LXT ⟨B.K, B.md, F, H, lr.a0⟩ exO Wo := ⟨fun C fs d fv F' ρ' σ' H' l' e1 e2 e3 q => ko.1 C fs d fv F' ρ' σ' H' (lr.up l') e1 e2 e3 q, fun C F' ρ' σ' H' l' q => ko.2 C F' ρ' σ' H' (lr.up l') q⟩
    have lx := cls_lxt (B1 := ⟨B.K, B.md, F, H, lr.a0⟩) hh ko1 k1
    have lxt : LXT ⟨B.K, B.md, F, H, lr.a0⟩ (disp B.K B.md exO D cs) (ZT.wCl B.K Wo E l) := ⟨fun C fs d fv F' ρ' σ' H' l' e1 e2 e3 q => lx C fs (some d) F' ρ' σ' H' l' (.inl ⟨d, fv, rfl, e1, e2, e3⟩) q, fun C F' ρ' σ' H' l' q => lx C [] none F' ρ' σ' H' l' (.inr ⟨rfl, rfl⟩) q⟩
    show tb (ZT.wCl X.K Wo E l) E σ H
    rw [hK]
    exact (hb F H lr.a0 (ZT.wCl B.K Wo E l) [] (fun _ _ => True) (fun _ _ _ => trivial) _ lxt).sim F ρ σ H D E l1 w k1
end
/-! ### what a clause reads of its error -/
section
variable {X : Cx} {B : Bs} {a C : Addr} {oe : Obj} {cls : Value} {d : Option Addr} {pn : List (Addr × Obj)} {e : Expr} {tE : TE} {te : DT} {pos : Pos}
def dXf (B : Bs) (a C : Addr) (cls : Value) (d : Option Addr) (f : Str) (te : DT) : DT := fun ρ P => te ρ fun r ρ1 => r = .dat (.cls a) ∧ cls = .ref C ∧ ∃ fs v, fs ≠ [] ∧ XF B C fs d ∧ fs.lookup f = some v ∧ P (.dat v) ρ1
theorem RvA.look {K : PySem.W.Frag} {hd : Option Addr} {F : Hp} {f : Str} {v : D} : ∀ {fs : List (Str × D)} {fv : List (Str × V)}, fv.map (·.1) = fs.map (·.1) → RvA K hd F (fv.map (·.2)) (fs.map (·.2)) → fs.lookup f = some v → ∃ x, fv.lookup f = some x ∧ Rv K hd F x v
  | [], _, _, _, e => by cases e
  | (n, w) :: fs, [], h, _, _ => by cases h
  | (n, w) :: fs, (m, x) :: fv, h, r, e => by
    rw [List.map_cons, List.map_cons] at h
    injection h with h1 h2
    cases r with
    | cons r1 r2 =>
      have h1' : m = n := h1
      subst h1'
      rw [List.lookup_cons] at e ⊢
      cases q : f == m with
      | true =>
        rw [q] at e
        cases e
        exact ⟨x, rfl, r1⟩
      | false =>
        rw [q] at e
        exact RvA.look h2 r2 e
theorem de_xf {n : Str} (T : XfC X.K C) (hno : PySem.W.findIn X.K (.ref C) n = some none) (hz : Zc cls d oe) (hf : ∃ vs, oe.data = .fields vs) (h : DE (X.suite a ((a, oe) :: pn)) B e tE te) (hb : attributeBase e n X.env (eval e X.env) = eval e X.env := by rfl) :
    DE (X.suite a ((a, oe) :: pn)) B (.Attribute e n pos) (tXf a cls d C n tE) (dXf B a C cls d n te) := by
  refine ⟨pe_xf T hno hz hf h.pe hb, fun F ρ σ H P Q l w k => h.sim F ρ σ H _ _ l w fun r v F' ρ' H' l' s kp rv ⟨er, ec, fs, dv, ne, x, lk, p⟩ => ?_⟩
  subst er
  cases rv
  rcases x with ⟨dd, fv, rfl, e1, e2, e3⟩ | ⟨z, _⟩
  · obtain ⟨y, ly, ry⟩ := e3.look e2 lk
    exact ⟨rfl, ec, dd, fv, y, rfl, l'.sub _ _ (l'.fro _ _ e1), ly, k (.dat dv) y F' ρ' H' l' s kp (ry.mono l'.fro) p⟩
  · exact absurd z ne
end
/-! ### isinstance of a caught error -/
structure IsC (K : PySem.W.Frag) (C : Addr) : Prop where
  hcl : (PySem.W.clsIn K C).isSome = true
  hgt : PySem.W.findIn K (.ref C) "__getattr__" = some none
  ha : PySem.W.findIn K (.ref C) "__class__" = some (some (.builtin "object.__class__"))
  hn : PySem.W.specialIn K (.builtin "object.__class__") "__get__" = some (some (.builtin "getset_descriptor.__get__"))
  ht : PySem.W.takesIn K (.builtin "object.__class__") = some true
  hm : PySem.W.mroIn K C (.type "object") = some true
  xf : XfC K C
section
variable {X : Cx} {B : Bs} {a C : Addr} {oe : Obj} {cls : Value} {d : Option Addr} {pn : List (Addr × Obj)} {e ce : Expr} {tE : TE} {te : DT} {p pos : Pos} {c : V} {u : Value} {b : Bool}
def rIsE (K : PySem.W.Frag) (a C : Addr) (cls : Value) (d : Option Addr) (u : Value) : List V → Hp → VK → Prop := fun xs H Q => ∃ (dd : Addr) (fs : List (Str × V)) (c : V) (b : Bool), cls = .ref C ∧ d = some dd ∧ H dd = some (.xd fs) ∧ xs = [.ref a, c] ∧ ClsV c u ∧ PySem.W.kitOne K (.ref C) u = some b ∧ Q (.bl b) H
theorem call_isE (T : IsC X.K C) (hz : Zc cls d oe) (hf : ∃ vs, oe.data = .fields vs) : CallR (X.suite a ((a, oe) :: pn)) (.builtin "isinstance") (rIsE X.K a C cls d u) := by
  intro pins s σ H xs us Q inv rl want
  obtain ⟨dd, fs, c, b, rfl, rfl, hd, rfl, k, e, q⟩ := want
  obtain ⟨at0, _⟩ := inv.pin (a, oe) (List.mem_append_left _ List.mem_cons_self)
  obtain ⟨vs, hv⟩ := hf
  have there : ObjOk X.prog X.w H s.heap dd (.xd fs) := inv.hok dd _ hd
  obtain ⟨mA, hns, _⟩ := there
  obtain ⟨od, ho, _⟩ := lookIn_ns hns
  have J : PySem.W.InstAt s.heap a oe C (some od) := ⟨at0, hz.1, by unfold PySem.W.notCls; rw [hv] <;> rfl, by rw [hz.2]; exact ho⟩
  have Y := PySem.W.kitx_exc (x := a) (ox := oe) (od := some od) T.hcl T.xf.ga T.hgt T.xf.exC T.ha T.hn T.ht T.hm
  cases rl with
  | cons r1 rr =>
    cases rr with
    | cons r2 rr =>
      cases rr
      cases r1
      have e2 := k.eq r2
      subst e2
      exact PySem.W.kia_one Y inv.kIn J e (fun z => nomatch z) fun tk => ⟨.bl b, H, inv.tok tk, rfl, q⟩
def dIsE (B : Bs) (a C : Addr) (cls : Value) (d : Option Addr) (u : Value) (te : DT) : DT := fun ρ P => te ρ fun r ρ1 => r = .dat (.cls a) ∧ cls = .ref C ∧ ∃ fs b, fs ≠ [] ∧ XF B C fs d ∧ PySem.W.kitOne B.K (.ref C) u = some b ∧ P (.dat (.bl b)) ρ1
theorem de_isE (T : IsC X.K C) (hz : Zc cls d oe) (hf : ∃ vs, oe.data = .fields vs) (hg : Gl X "isinstance") (hm : X.mg "isinstance" = none) (h : DE (X.suite a ((a, oe) :: pn)) B e tE te) (hc : PE (X.suite a ((a, oe) :: pn)) ce (tC c)) (kc : ClsV c u) (hK : X.K = B.K := by rfl)
    (he : starEach [e, ce] X.env = (false, eval e X.env) :: starEach [ce] X.env := by rfl) (he2 : starEach [ce] X.env = (false, eval ce X.env) :: starEach [] X.env := by rfl) (hpl : (backTo pos (starEach [ce] X.env)).any (·.1) = false := by rfl) :
    DE (X.suite a ((a, oe) :: pn)) B (.Call (.Name "isinstance" p) [e, ce] [] pos) (tCB (rIsE X.K a C cls d u) (tCons tE (tCons (tC c) tNil))) (dIsE B a C cls d u te) := by
  refine ⟨pe_callB (X := X.suite a ((a, oe) :: pn)) (call_isE T hz hf) hg hm (by decide +kernel) (pa_cons h.pe (pa_cons hc pa_nil he2) he) (by decide) (by decide) he hpl, fun F ρ σ H P Q l w k => h.sim F ρ σ H _ _ l w fun r v F' ρ' H' l' s kp rv ⟨er, ec, fs, b, ne, x, kb, p⟩ => ?_⟩
  subst er
  cases rv
  rcases x with ⟨dd, fv, rfl, e1, e2, e3⟩ | ⟨z, _⟩
  · exact ⟨dd, fv, c, b, ec, rfl, l'.sub _ _ (l'.fro _ _ e1), rfl, kc, by rw [hK]; exact kb, k (.dat (.bl b)) _ F' ρ' H' l' s kp (.bl b) p⟩
  · exact absurd z ne
end
theorem takesF {X : Cx} : Takes X (fun _ _ _ _ => False) := fun _ _ ⟨_, _, _, _, _, _, _, _, _, _, _, _, _, _, _, _, w⟩ => w.elim
theorem lxtF {B : Bs} : LXT B (fun _ _ _ => False) (fun _ _ _ _ => False) := ⟨fun _ _ _ _ _ _ _ _ _ _ _ _ q => q.elim, fun _ _ _ _ _ _ q => q.elim⟩
/-! ### an error's __init__ -/
section
variable {P : Program} {w : World} {K : PySem.W.Frag} {mg : Str → Option Value} {base : Heap} {N ps : List Str} {qual : Str} {st : Stmt} {f C : Addr} {fd : FuncData}
theorem start0 {N : List Str} {vs : List V} {i : Nat} {v : V} (e : vs[i]? = some v) : (L2.start N vs)[i]? = some (some v) := by
  have hl := (List.getElem?_eq_some_iff.mp e).1
  unfold L2.start
  rw [List.getElem?_append_left (by simpa using hl), List.getElem?_map, e]
  rfl
theorem ok_ex1 {f1 : Str} (F : Fun K "__init__" qual st f fd) (S : FnScope N ps (defScope st)) (ox : OexC K C) (n1 : PySem.W.findIn K (.ref C) f1 = some none) (hl : ps.length = 2)
    (hb : ∀ (cdv : Value) (A : Around) (outer : List PySem.Env) (s : Shared) (H : Hp) (E : XK), PSs (cxOf CX0 P w K mg base N qual (defScope st) f cdv A outer s H E).nox (defBody st) (tOst K f1 (tVar 0) (tVar 1))) : FnOk P w K mg base CX0 1 f fd ps (spEx C [f1]) := by
  refine F.ok S (fun vs H Q E h => ?_) (fun cdv A outer s H vs Q E hr h => ⟨_, hb cdv A outer s H E, ?_⟩)
  · obtain ⟨a, xs, rfl, e, _⟩ := h
    rw [hl, List.length_cons, e]
    rfl
  · obtain ⟨a, xs, rfl, e, ha, k⟩ := h
    match xs, e with
    | [x], _ =>
      refine ⟨x, start0 rfl, .ref a, start0 rfl, a, C, rfl, ox, n1, .inl ⟨ha, fun d hd nd => ?_⟩⟩
      refine k d _ hd nd upd_same ?_ fun b na nb => ?_
      · rw [upd_ne nd]
        exact upd_same
      · rw [upd_ne na, upd_ne nb]
theorem okDDX {x : Str} {k : Nat} {W : DW} {dvs : List V} {kws : List (Str × V)} (F : FunD K x qual (defArgs st) (defBody st) (defScope st) dvs kws f fd) (S : FnScope N ps (defScope st)) (hlen : ∀ ds Q ex, W ds Q ex → ds.length = ps.length)
    (hb : ∀ (cdv : Value) (A : Around) (outer : List PySem.Env) (s : Shared) (H : Hp) (E : XK), Room k (A.deeper (PyProof.Rows.envOfC qual (defScope st) s.heap.objs.size f cdv)) → ∀ (md : Option (Addr × Addr)) (F0 : Hp) (a0 : ∀ p, md = some p → ¬ NoO H p.2) (ex : EXD), LX ⟨K, md, F0, H, a0⟩ ex E →
      ∃ tS t, DSs (cxOf (L2.CX P w) P w K mg base N qual (defScope st) f cdv A outer s H E) ⟨K, md, F0, H, a0⟩ (defBody st) tS t ∧ ∀ ds Q, W ds Q ex → t { nx := fun _ => Q (.dat .non), rt := Q } (startD N ds)) : FnOk P w K mg base (L2.CX P w) (k + 1) f fd ps (spD K W) := by
  refine F.ok S (sp_len hlen) fun cdv A outer s H vs Q E hr h => ?_
  obtain ⟨⟨K', md, F0, H0, a0⟩, ds, P', ex, rfl, rfl, ok, a, w, hk, hl⟩ := h
  obtain ⟨tS, t, d, q⟩ := hb cdv A outer s H0 E hr md F0 a0 ex hl
  exact ⟨tS, d.ps, sp_body ok a hk d.sim (q ds P' w)⟩
end
end Z

set_option Elab.async false
set_option linter.all false
set_option maxRecDepth 100000
namespace Z
open PySem L2
variable [TabsP]
/-! ## loops by invariants -/
theorem dFor_ind {g : DGT} {tb : DST} {E : DEnds} (I : List D → En → Prop) (h0 : ∀ ρ, I [] ρ → E.nx ρ)
    (h1 : ∀ d ds (C : En → Prop) ρ, I (d :: ds) ρ → (∀ ρ', I ds ρ' → C ρ') → g d ρ fun ρ1 => tb { E with nx := C, ct := C, bk := E.nx } ρ1) : ∀ ds ρ, I ds ρ → dForL g tb E ds ρ
  | [], ρ, h => h0 ρ h
  | d :: ds, ρ, h => h1 d ds _ ρ h fun ρ' h' => dFor_ind I h0 h1 ds ρ' h'
theorem dLc_ind {g : DGT} {tt : DBT} {te : DT} {ρl : En} {ho : Bool} {P : List D → Prop} (I : List D → List D → Prop) (h0 : ∀ acc, I [] acc → P acc)
    (h1 : ∀ d ds acc (C : List D → Prop), I (d :: ds) acc → (∀ acc', I ds acc' → C acc') → g d ρl fun ρ2 => tt ρ2 fun b ρ3 => if b = true then te ρ3 fun r ρ4 => acc.length < sizeLine ∧ r.isVar = false ∧ (ho = true → noL (vl ρ4 r) = true) ∧ C (acc ++ [vl ρ4 r]) else C acc) :
    ∀ ds acc, I ds acc → dLcL g tt te ρl ho ds acc P
  | [], acc, h => h0 acc h
  | d :: ds, acc, h => h1 d ds acc _ h fun acc' h' => dLc_ind I h0 h1 ds acc' h'
/-- each element by a function -/
theorem dLc_map {g : DGT} {tt : DBT} {te : DT} {ρl : En} {ho : Bool} {P : List D → Prop} (f : D → Option D) {ds : List D} (hz : ds.length ≤ 2 ^ 24) (hn : ∀ d ∈ ds, ∀ e, f d = some e → ho = true → noL e = true)
    (h1 : ∀ d ∈ ds, ∀ (T : R → En → Prop) (C0 : Prop), (match f d with | some e => ∀ r ρ4, r.isVar = false → vl ρ4 r = e → T r ρ4 | none => C0) → g d ρl fun ρ2 => tt ρ2 fun b ρ3 => if b = true then te ρ3 T else C0) (p : P (ds.filterMap f)) : dLcL g tt te ρl ho ds [] P := by
  have key : ∀ es acc, (∀ d ∈ es, d ∈ ds) → acc.length + es.length ≤ 2 ^ 24 → acc ++ es.filterMap f = ds.filterMap f → dLcL g tt te ρl ho es acc P := by
    intro es
    induction es with
    | nil =>
      intro acc _ _ e
      rw [List.filterMap_nil, List.append_nil] at e
      show P acc
      rw [e]
      exact p
    | cons d es ih =>
      intro acc hm hl e
      rw [List.length_cons] at hl
      refine h1 d (hm d List.mem_cons_self) _ _ ?_
      cases q : f d with
      | none =>
        refine ih acc (fun x hx => hm x (List.mem_cons_of_mem _ hx)) (by omega) ?_
        rw [List.filterMap_cons, q] at e
        exact e
      | some y =>
        intro r ρ4 hr hv
        refine ⟨by exact Nat.lt_of_lt_of_le (by omega : acc.length < 2 ^ 24) (by decide), hr, fun h => by rw [hv]; exact hn d (hm d List.mem_cons_self) y q h, ih _ (fun x hx => hm x (List.mem_cons_of_mem _ hx)) (by rw [List.length_append]; show acc.length + 1 + _ ≤ _; omega) ?_⟩
        rw [List.filterMap_cons, q] at e
        rw [hv, List.append_assoc]
        exact e
  exact key ds [] (fun _ h => h) (by simpa using hz) rfl
/-- enumerate from a number on -/
def enF : Nat → List D → List D
  | _, [] => []
  | k, d :: ds => .tup [.int (k : Nat), d] :: enF (k + 1) ds
theorem enF_get : ∀ (ds : List D) (k i : Nat), (enF k ds)[i]? = (ds[i]?).map fun d => .tup [.int ((k + i : Nat) : Int), d]
  | [], k, i => by simp [enF]
  | d :: ds, k, 0 => by simp [enF]
  | d :: ds, k, i + 1 => by
    rw [enF, List.getElem?_cons_succ, List.getElem?_cons_succ, enF_get ds (k + 1) i, show k + 1 + i = k + (i + 1) by omega]
theorem enD_eq (ds : List D) : enD ds = enF 0 ds := by
  refine List.ext_getElem? fun i => ?_
  rw [enF_get]
  cases e : ds[i]? with
  | none =>
    rw [List.getElem?_eq_none (by rw [enD_len]; exact List.getElem?_eq_none_iff.mp e)]
    rfl
  | some d =>
    rw [enD_get e, Nat.zero_add]
    rfl
/-! ## an assignment to a tuple of names -/
def dAsg (te : DT) (g : DGT) : DST := fun D ρ => te ρ fun r ρ1 => g (vl ρ1 r) (mvE ρ1 r) D.nx
section
variable {X : Cx} {B : Bs} {F H : Hp} {ρ : En} {σ : L2.St} {tg e : Expr} {tE : TE} {te : DT} {g : TG} {dg : DGT} {sl : List Nat} {pos : Pos}
theorem ds_asg (h : DE X B e tE te) (hg : DG X B tg sl g dg) (hs : swapsWithSole [tg] e pos.line X.env = pure false := by rfl) (hw : swappedStores [tg] e X.env = pure none := by rfl) (h1 : (assignEach [tg] X.env).map (·.2) = [assign tg X.env] := by rfl) :
    DS X B (.Assign [tg] e pos) (tAsg tE g) (dAsg te dg) := by
  refine ⟨ps_asg h.pe hg.pg hs hw h1, fun F ρ σ H D E l w k => h.sim.frz F ρ σ H _ _ l w fun r v F' ρ' H' l' s kp rv p => ?_⟩
  obtain ⟨F2, s2, l2, v2⟩ := l'.mv rv
  exact hg.sim F2 _ σ H' v _ _ _ l2 v2 p fun F3 ρ3 σ3 H3 l3 s3 _ q => k.nx F3 ρ3 σ3 H3 l3 (s.trans (s2.trans s3)) q
/-! ## own dicts -/
def dDnew (i : Nat) : DST := fun D ρ => D.nx (ρ.set i (some (.dic [] [])))
theorem ds_dnew {i : Nat} {x : Str} {pos' p2 : Pos} (hN : X.N.Nodup) (hi : X.N[i]? = some x) (hx : Loc X.env.scope x) (hs : swapsWith (.Dict [] [] p2) (some (.Name x pos')) pos.line X.env = pure false := by rfl) (hf : X.fn x = true ∨ X.env.scope.names.lookup x = some .local := by first | exact .inl rfl | exact .inr rfl | assumption) :
    DS X B (.Assign [.Name x pos'] (.Dict [] [] p2) pos) (tAsg tDNewK (gName i)) (dDnew i) := by
  refine ⟨ps_set hN hi hx pe_dnewK hs hf, fun F ρ σ H D E l w k p np => ?_⟩
  have l2 := l.newO (u := .dK []) np
  refine k.nx F _ _ _ (l2.set (o := .dic [] []) ⟨p, [], rfl, upd_same, rfl, .nil, l.noF np, l.no0 (.of np)⟩ fun _ j o' e w z => ?_) (Same.refl _) w
  obtain ⟨q, u, e1, h1, _⟩ := l.own e w
  rw [e1] at z
  cases z
  rw [h1] at np; cases np
def keyD : D → Option Key
  | .int i => some (.inl i)
  | .str x => some (.inr x)
  | _ => none
def dOf : Key → D
  | .inl i => .int i
  | .inr x => .str x
def hasK (ks : List Key) (k : Key) : Bool := ks.any fun x => decide (x = k)
def putKs (ks : List Key) (k : Key) : List Key := if hasK ks k = true then ks else ks ++ [k]
def putDs (ks : List Key) (ds : List D) (k : Key) (d : D) : List D := if hasK ks k = true then (ks.zip ds).map fun p => if p.1 = k then d else p.2 else ds ++ [d]
theorem put_rv {K : PySem.W.Frag} {hd : Option Addr} {F : Hp} {kv : List (Key × V)} {ds : List D} {k : Key} {v : V} {d : D} (h : RvA K hd F (kv.map (·.2)) ds) (hv : Rv K hd F v d) :
    (putK kv k v).map (·.1) = putKs (kv.map (·.1)) k ∧ RvA K hd F ((putK kv k v).map (·.2)) (putDs (kv.map (·.1)) ds k d) := by
  have e : (kv.any fun x => decide (x.1 = k)) = hasK (kv.map (·.1)) k := by
    unfold hasK
    rw [List.any_map]
    rfl
  unfold putK putKs putDs
  rw [e]
  by_cases m : hasK (kv.map (·.1)) k = true
  · rw [if_pos m, if_pos m, if_pos m]
    refine ⟨?_, ?_⟩
    · rw [List.map_map]
      refine List.map_congr_left fun x _ => ?_
      show (if x.1 = k then (x.1, v) else x).1 = x.1
      split <;> rfl
    · clear m e
      induction kv generalizing ds with
      | nil => cases h; exact .nil
      | cons x kv ih =>
        cases h with
        | cons a b =>
          refine .cons ?_ (ih b)
          show Rv K hd F (if x.1 = k then (x.1, v) else x).2 (if x.1 = k then d else _)
          split
          · exact hv
          · exact a
  · rw [if_neg m, if_neg m, if_neg m, List.map_append, List.map_append]
    exact ⟨rfl, h.app (.cons hv .nil)⟩
def dicAt (ρ : En) (i : Nat) (P : List Key → List D → Prop) : Prop := match ρ[i]? with
  | some (some (.dic ks ds)) => P ks ds
  | _ => False
theorem dicAt_of {ρ : En} {i : Nat} {P : List Key → List D → Prop} (h : dicAt ρ i P) : ∃ ks ds, ρ[i]? = some (some (.dic ks ds)) ∧ P ks ds := by
  unfold dicAt at h
  match e : ρ[i]?, h with
  | some (some (.dic ks ds)), h => exact ⟨ks, ds, rfl, h⟩
def dDput (i : Nat) (tk tv : DT) : DST := fun D ρ => tv ρ fun rv ρ1 => rv.isVar = false ∧ (∃ ks ds, ρ1[i]? = some (some (.dic ks ds))) ∧ tk ρ1 fun rk ρ2 => dicAt ρ2 i fun ks ds => ∃ d k, rk = .dat d ∧ keyD d = some k ∧ ks.length < sizeLine ∧ D.nx (ρ2.set i (some (.dic (putKs ks k) (putDs ks ds k (vl ρ2 rv)))))
theorem Rel.mutD (l : Rel B F ρ σ H) {i : Nat} {ks : List Key} {ds : List D} (e : ρ[i]? = some (some (.dic ks ds))) : ∃ p kv, σ[i]? = some (some (.ref p)) ∧ H p = some (.dK kv) ∧ kv.map (·.1) = ks ∧ RvA B.K B.hd F (kv.map (·.2)) ds ∧ ∀ kv' ds', RvA B.K B.hd F (kv'.map (·.2)) ds' → Rel B F (ρ.set i (some (.dic (kv'.map (·.1)) ds'))) σ (L2.upd H p (.dK kv')) := by
  obtain ⟨v, es, p, kv, rfl, h1, h2, h3, n, n0⟩ := l.var i _ e
  exact ⟨p, kv, es, h1, h2, h3, fun kv' ds' a => l.mutO e rfl es ⟨p, kv', rfl, upd_same, rfl, a, n, n0⟩⟩
theorem keyD_kV {K : PySem.W.Frag} {hd : Option Addr} {F : Hp} {d : D} {k : Key} {v : V} (h : Rv K hd F v d) (e : keyD d = some k) : v = kV k := by
  cases d <;> first | cases e | skip
  · cases h; rfl
  · cases h; rfl
theorem hu_of {k : Nat} {A : Around} (r : Room k A) : A.units + 1 < cLine := by have := r.units; omega
theorem ds_dput {o ke ve : Expr} {tK tV : TE} {tk tv : DT} {i : Nat} {pos' : Pos} (hu : X.A.units + 1 < cLine) (ho : PE X o (tVar i)) (hk : DE X B ke tK tk) (hv : DE X B ve tV tv) (hs : swapsWith ve (some (.Subscript o ke pos')) pos.line X.env = pure false := by rfl) :
    DS X B (.Assign [.Subscript o ke pos'] ve pos) (sDPut (tVar i) tK tV) (dDput i tk tv) := by
  refine ⟨ps_dput hu ho hk.pe hv.pe hs, fun F ρ σ H D E l w k => hv.sim.frz F ρ σ H _ _ l w fun r v F1 ρ1 H1 l1 s1 k1 rv1 ⟨nv, ⟨ks1, ds1, ed⟩, p⟩ => ?_⟩
  obtain ⟨p0, _, es, _⟩ := l1.mutD ed
  refine ⟨_, es, hk.sim F1 ρ1 σ H1 _ _ l1 p fun r2 v2 F2 ρ2 H2 l2 s2 k2 rv2 q => ?_⟩
  obtain ⟨ks, ds, e2, d, kk, er, ek, hz, q⟩ := dicAt_of q
  subst er
  obtain ⟨p', kv, es', h1, h2, h3, m⟩ := l2.mutD e2
  rw [es] at es'
  cases es'
  have rv : Rv B.K B.hd F2 v (vl ρ2 r) := by
    cases r with
    | dat d => exact Rv.mono rv1 s2
    | new ds => exact Rv.mono rv1 s2
    | var i => cases nv
  obtain ⟨q1, q2⟩ := put_rv (k := kk) h3 rv
  subst h2
  have hl : kv.length < sizeLine := by simpa using hz
  have dp : DPut H2 p0 v2 v (L2.upd H2 p0 (.dK (putK kv kk v))) := by
    rw [keyD_kV rv2 ek]
    exact .k h1 hl
  have l3 := m _ _ q2
  rw [q1] at l3
  exact ⟨p0, _, rfl, dp, k.nx F2 _ σ _ l3 (s1.trans s2) q⟩
/-! ### tuple(d) -/
def rTupD : List V → Hp → VK → Prop := fun xs H Q => ∃ (a : Addr) (kvs : List (Key × V)), xs = [.ref a] ∧ H a = some (.dK kvs) ∧ ∀ p, H p = none → Q (.ref p) (L2.upd H p (.tup (kvs.map fun kv => kV kv.1)))
theorem ktupD (hc : X.calm = true) : CallR X (.type "tuple") rTupD := ZT.call_tupD hc
def dTupD : List D → (R → Prop) → Prop
  | [.dct ks _], P => P (.dat (.tup (ks.map dOf)))
  | _, _ => False
theorem rva_keys {K : PySem.W.Frag} {hd : Option Addr} {F : Hp} : ∀ ks : List Key, RvA K hd F (ks.map kV) (ks.map dOf)
  | [] => .nil
  | .inl i :: ks => .cons (.int i) (rva_keys ks)
  | .inr x :: ks => .cons (.str x) (rva_keys ks)
theorem noL_keys : ∀ ks : List Key, noLA (ks.map dOf) = true
  | [] => rfl
  | .inl i :: ks => by simpa [noLA, noL, dOf] using noL_keys ks
  | .inr x :: ks => by simpa [noLA, noL, dOf] using noL_keys ks
theorem cad_tupD : CaD B rTupD dTupD := by
  intro F ρ σ H xs ds P Q l a w k
  match ds, w with
  | [.dct ks es], w =>
    obtain ⟨v, rfl, r⟩ := a.one
    cases r with
    | @dct p kv _ _ a1 a2 a3 =>
      refine ⟨p, kv, rfl, l.sub _ _ a1, fun q nq => ?_⟩
      have e : (kv.map fun x => kV x.1) = ks.map kV := by rw [← a2, List.map_map]; rfl
      rw [e]
      obtain ⟨l3, s3⟩ := l.newF (u := .tup (ks.map kV)) nq
      exact k (.dat _) _ _ _ l3 s3 (Rv.tup (SqT.of upd_same) (rva_keys ks)) w
end
end Z

set_option Elab.async false
set_option linter.all false
set_option maxRecDepth 100000
namespace Z
open PySem L2
variable [TabsP]
/-! ## small facts of values -/
theorem enum_go {row : D} {ds : List D} {X : List D → Prop} (e : seqOfD row = some ds) (h : X ds) : (∃ ds, row = .lst ds ∧ X ds) ∨ ∃ ds, (row = .tup ds ∨ row = .tpx ds) ∧ X ds := by
  cases row <;> first | cases e | skip
  · exact .inl ⟨_, rfl, h⟩
  · exact .inr ⟨_, .inl rfl, h⟩
  · exact .inr ⟨_, .inr rfl, h⟩
/-- one statement at a time -/
theorem sq_go {t u : DST} {D : DEnds} {ρ : En} (h : ∀ S : En → Prop, (∀ ρ1, u D ρ1 → S ρ1) → t { D with nx := S } ρ) : dSq t u D ρ := h (u D) fun _ x => x
theorem ite_t {c : Prop} {i : Decidable c} {a b : Prop} (h : c) (x : a) : @ite Prop c i a b := by rw [if_pos h]; exact x
theorem ite_f {c : Prop} {i : Decidable c} {a b : Prop} (h : ¬ c) (x : b) : @ite Prop c i a b := by rw [if_neg h]; exact x
theorem ite_b {c : Prop} {i : Decidable c} {a b : Prop} (x : a) (y : b) : @ite Prop c i a b := by by_cases h : c; exact ite_t h x; exact ite_f h y
theorem ite_d {c : Prop} {i : Decidable c} {a b : Prop} (x : c → a) (y : ¬ c → b) : @ite Prop c i a b := by by_cases h : c; exact ite_t h (x h); exact ite_f h (y h)
theorem flat_ints (ns : List Int) : (ns.map D.int).all flatD = true := by
  rw [List.all_eq_true]
  intro x hx
  obtain ⟨i, _, rfl⟩ := List.mem_map.mp hx
  rfl
theorem in_ints (i : Int) (ns : List Int) : inD (.int i) (ns.map D.int) = decide (i ∈ ns) := by
  unfold inD inV
  rw [Bool.eq_iff_iff, List.any_eq_true, decide_eq_true_eq]
  constructor
  · rintro ⟨x, hx, e⟩
    rw [List.map_map] at hx
    obtain ⟨j, hj, rfl⟩ := List.mem_map.mp hx
    have : (j == i) = true := e
    rw [beq_iff_eq] at this
    exact this ▸ hj
  · intro h
    refine ⟨.int i, ?_, ?_⟩
    · rw [List.map_map]
      exact List.mem_map.mpr ⟨i, h, rfl⟩
    · show (i == i) = true
      simp
theorem toPy_ints : ∀ ns : List Int, toPyA (ns.map D.int) = ns.map PyData.int
  | [] => rfl
  | n :: ns => by rw [List.map_cons, toPyA, toPy, toPy_ints ns]; rfl
theorem eqv_ints : ∀ ns ms : List Int, PyData.eqvAll (ns.map PyData.int) (ms.map PyData.int) = decide (ns = ms)
  | [], [] => by simp [PyData.eqvAll]
  | [], _ :: _ => by simp [PyData.eqvAll]
  | _ :: _, [] => by simp [PyData.eqvAll]
  | n :: ns, m :: ms => by
    rw [List.map_cons, List.map_cons, PyData.eqvAll, eqv_ints ns ms, PyData.eqv]
    by_cases h : n = m <;> by_cases g : ns = ms <;> simp [h, g]
theorem pyd_ints : ∀ ns : List Int, pydA (ns.map D.int) = true
  | [] => rfl
  | n :: ns => by rw [List.map_cons, pydA, pyd_ints ns]; rfl
def tupI (d : D) (ns : List Int) : Prop := d = .tup (ns.map D.int) ∨ d = .tpx (ns.map D.int)
theorem tupI.seq {d : D} {ns : List Int} (h : tupI d ns) : seqOfD d = some (ns.map D.int) := by rcases h with rfl | rfl <;> rfl
theorem tupI.py {d : D} {ns : List Int} (h : tupI d ns) : toPy d = .tuple (ns.map PyData.int) := by
  rcases h with rfl | rfl
  · rw [toPy, toPy_ints]
  · rw [toPy, toPy_ints]
theorem eq_tupI {a b : D} {ns ms : List Int} (ha : tupI a ns) (hb : tupI b ms) : eqD a b = decide (ns = ms) := by
  unfold eqD
  rw [ha.py, hb.py, PyData.eqv, eqv_ints]
theorem canLay_ints : ∀ ns : List Int, PyData.canLayAll0 (ns.map PyData.int) = true
  | [] => rfl
  | n :: ns => by rw [List.map_cons, PyData.canLayAll0, canLay_ints ns]; rfl
theorem depth_ints : ∀ ns : List Int, PyData.depthAll (ns.map PyData.int) = 0
  | [] => rfl
  | n :: ns => by rw [List.map_cons, PyData.depthAll, depth_ints ns]; rfl
theorem shp_tupI {a : D} {ns : List Int} (ha : tupI a ns) : shp a = true := by
  unfold shp SeqAt.shaped
  rw [ha.py]
  have e : pyd a = true := by rcases ha with rfl | rfl <;> (rw [pyd]; exact pyd_ints ns)
  rw [e, PyData.canLay0, canLay_ints, PyData.depth, depth_ints]
  rfl
theorem cut_to {xs : List D} {k : Nat} : cutD xs none (some (k : Int)) = xs.take k := by
  unfold cutD
  rw [HT.sIx_none, HT.sIx_nat, List.drop_zero, Nat.sub_zero]
  by_cases h : k ≤ xs.length
  · rw [Nat.min_eq_left h]
  · rw [Nat.min_eq_right (by omega), List.take_length, List.take_of_length_le (by omega)]
theorem dSlv_of {row : D} {all : List D} {lo hi : Option Int} {P : R → Prop} (e : seqOfD row = some all) (h : ∀ x : R, x.isVar = false → (∀ ρ, seqOfD (vl ρ x) = some (cutD all lo hi)) → P x) : dSlv lo hi row P := by
  cases row <;> first | cases e | skip
  · exact h _ rfl fun _ => rfl
  · exact h _ rfl fun _ => rfl
  · exact h _ rfl fun _ => rfl
theorem dLc_ints {g : DGT} {tt : DBT} {te : DT} {ρl : En} {ho : Bool} {P : List D → Prop} {ns : List Int} (p : Int → Bool) (f : Int → D) (hz : ns.length ≤ 2 ^ 24) (hn : ∀ i ∈ ns, ho = true → noL (f i) = true)
    (h1 : ∀ i ∈ ns, ∀ (T : R → En → Prop) (C0 : Prop), (p i = true → ∀ r ρ4, r.isVar = false → vl ρ4 r = f i → T r ρ4) → (p i = false → C0) → g (.int i) ρl fun ρ2 => tt ρ2 fun b ρ3 => if b = true then te ρ3 T else C0) (q : P ((ns.filter p).map f)) : dLcL g tt te ρl ho (ns.map D.int) [] P := by
  let F : D → Option D := fun d => match d with
    | .int i => if p i = true then some (f i) else none
    | _ => none
  have e : (ns.map D.int).filterMap F = (ns.filter p).map f := by
    clear hz hn h1 q
    induction ns with
    | nil => rfl
    | cons i ns ih =>
      rw [List.map_cons, List.filterMap_cons, List.filter_cons, ih]
      have hF : F (.int i) = if p i = true then some (f i) else none := rfl
      rw [hF]
      cases p i <;> rfl
  refine dLc_map F (by simpa using hz) (fun d hd y hy ho' => ?_) (fun d hd T C0 w => ?_) (by rw [e]; exact q)
  · obtain ⟨i, hi, rfl⟩ := List.mem_map.mp hd
    have hy : (if p i = true then some (f i) else none) = some y := hy
    split at hy
    · cases hy
      exact hn i hi ho'
    · cases hy
  · obtain ⟨i, hi, rfl⟩ := List.mem_map.mp hd
    have w : match (if p i = true then some (f i) else none) with | some e => ∀ r ρ4, r.isVar = false → vl ρ4 r = e → T r ρ4 | none => C0 := w
    refine h1 i hi T C0 (fun h => ?_) fun h => ?_
    · rw [h] at w
      exact w
    · rw [h] at w
      exact w
/-! ## reading by cases -/
section
variable {ds : List D} {ks : List Key} {P : R → Prop} {d a : D} {b : Bool} {i : Int} {ρ : En} {n : Nat} {lo hi : Option Int} {x : Str}
theorem sq_l : seqOfD (.lst ds) = some ds := rfl
theorem sq_t : seqOfD (.tup ds) = some ds := rfl
theorem sq_x : seqOfD (.tpx ds) = some ds := rfl
theorem tr_n : truD .non = some false := rfl
theorem tr_b : truD (.bl b) = some b := rfl
theorem tr_i : truD (.int i) = some (i != 0) := rfl
theorem tr_l : truD (.lst ds) = some (!ds.isEmpty) := rfl
theorem tr_t : truD (.tup ds) = some (!ds.isEmpty) := rfl
theorem tr_x : truD (.tpx ds) = some (!ds.isEmpty) := rfl
theorem tr_d : truD (.dct ks ds) = some (!ks.isEmpty) := rfl
theorem vl_d : vl ρ (.dat d) = d := rfl
theorem vl_n : vl ρ (.new ds) = .lst ds := rfl
theorem vl_v : vl ρ (.var n) = match ρ[n]? with | some (some o) => o.frz | _ => .non := rfl
theorem fr_d : (OV.dat d).frz = d := rfl
theorem fr_o : (OV.own ds).frz = .lst ds := rfl
theorem fr_k : (OV.dic ks ds).frz = .dct ks ds := rfl
theorem sl_l : dSlv lo hi (.lst ds) P = P (.new (cutD ds lo hi)) := rfl
theorem sl_t : dSlv lo hi (.tup ds) P = P (.dat (.tup (cutD ds lo hi))) := rfl
theorem sl_x : dSlv lo hi (.tpx ds) P = P (.dat (.tup (cutD ds lo hi))) := rfl
theorem le_1 : dLen [a] P = match seqOfD a with | some ds => P (.dat (.int ds.length)) | none => False := rfl
theorem li_1 : dList [a] P = match seqOfD a with | some ds => P (.new ds) | none => False := rfl
theorem tu_1 : dTuple [a] P = match tupOfD a with | some d => P (.dat d) | none => False := rfl
theorem tu_l : tupOfD (.lst ds) = some (.tup ds) := rfl
theorem tu_t : tupOfD (.tup ds) = some (.tup ds) := rfl
theorem tu_x : tupOfD (.tpx ds) = some (.tpx ds) := rfl
theorem tx_1 : dTupX [a] P = match tpxOfD a with | some d => P (.dat d) | none => False := rfl
theorem tx_l : tpxOfD (.lst ds) = some (.tpx ds) := rfl
theorem tx_t : tpxOfD (.tup ds) = some (.tup ds) := rfl
theorem tx_x : tpxOfD (.tpx ds) = some (.tpx ds) := rfl
theorem rr_d : retR ρ (.dat d) = .dat d := rfl
theorem rr_n : retR ρ (.new ds) = .new ds := rfl
theorem rr_v : retR ρ (.var n) = match ρ[n]? with | some (some (.own ds)) => R.new ds | some (some o) => .dat o.frz | _ => .var n := rfl
theorem in_1 {neg : Bool} : dIn neg a d P = match seqOfD d with | some ds => flatD a = true ∧ ds.all flatD = true ∧ P (.dat (.bl (if neg then !inD a ds else inD a ds))) | none => False := rfl
theorem ix_1 : dIx a (.int i) P = match seqOfD a with | some ds => ∃ d, atI ds i = some d ∧ P (.dat d) | none => False := by
  unfold dIx
  cases seqOfD a <;> rfl
theorem dt_1 {ds : List D} : dTupD [.dct ks ds] P = P (.dat (.tup (ks.map dOf))) := rfl
theorem iv_d : (R.dat d).isVar = false := rfl
theorem iv_n : (R.new ds).isVar = false := rfl
theorem iv_v : (R.var n).isVar = true := rfl
theorem nr_d : noR (.dat d) = noL d := rfl
theorem nr_n : noR (.new ds) = noLA ds := rfl
theorem lt_n : isLT .non = false := rfl
theorem pl_n : plainD .non = true := rfl
theorem tyB_n : isT5 .B .non = false := rfl
theorem tyI_n : isT5 .I .non = false := rfl
theorem tyS_n : isT5 .S .non = false := rfl
theorem tyL_n : isT5 .L .non = false := rfl
theorem tyT_n : isT5 .T .non = false := rfl
theorem lt_b : isLT (.bl b) = false := rfl
theorem pl_b : plainD (.bl b) = true := rfl
theorem tyB_b : isT5 .B (.bl b) = true := rfl
theorem tyI_b : isT5 .I (.bl b) = true := rfl
theorem tyS_b : isT5 .S (.bl b) = false := rfl
theorem tyL_b : isT5 .L (.bl b) = false := rfl
theorem tyT_b : isT5 .T (.bl b) = false := rfl
theorem lt_i : isLT (.int i) = false := rfl
theorem pl_i : plainD (.int i) = true := rfl
theorem tyB_i : isT5 .B (.int i) = false := rfl
theorem tyI_i : isT5 .I (.int i) = true := rfl
theorem tyS_i : isT5 .S (.int i) = false := rfl
theorem tyL_i : isT5 .L (.int i) = false := rfl
theorem tyT_i : isT5 .T (.int i) = false := rfl
theorem lt_s : isLT (.str x) = false := rfl
theorem pl_s : plainD (.str x) = true := rfl
theorem tyB_s : isT5 .B (.str x) = false := rfl
theorem tyI_s : isT5 .I (.str x) = false := rfl
theorem tyS_s : isT5 .S (.str x) = true := rfl
theorem tyL_s : isT5 .L (.str x) = false := rfl
theorem tyT_s : isT5 .T (.str x) = false := rfl
theorem lt_l : isLT (.lst ds) = true := rfl
theorem pl_l : plainD (.lst ds) = true := rfl
theorem tyB_l : isT5 .B (.lst ds) = false := rfl
theorem tyI_l : isT5 .I (.lst ds) = false := rfl
theorem tyS_l : isT5 .S (.lst ds) = false := rfl
theorem tyL_l : isT5 .L (.lst ds) = true := rfl
theorem tyT_l : isT5 .T (.lst ds) = false := rfl
theorem lt_t : isLT (.tup ds) = true := rfl
theorem pl_t : plainD (.tup ds) = true := rfl
theorem tyB_t : isT5 .B (.tup ds) = false := rfl
theorem tyI_t : isT5 .I (.tup ds) = false := rfl
theorem tyS_t : isT5 .S (.tup ds) = false := rfl
theorem tyL_t : isT5 .L (.tup ds) = false := rfl
theorem tyT_t : isT5 .T (.tup ds) = true := rfl
theorem lt_x : isLT (.tpx ds) = true := rfl
theorem pl_x : plainD (.tpx ds) = true := rfl
theorem tyB_x : isT5 .B (.tpx ds) = false := rfl
theorem tyI_x : isT5 .I (.tpx ds) = false := rfl
theorem tyS_x : isT5 .S (.tpx ds) = false := rfl
theorem tyL_x : isT5 .L (.tpx ds) = false := rfl
theorem tyT_x : isT5 .T (.tpx ds) = true := rfl
theorem lt_d : isLT (.dct ks ds) = false := rfl
theorem pl_d : plainD (.dct ks ds) = true := rfl
theorem tyB_d : isT5 .B (.dct ks ds) = false := rfl
theorem tyI_d : isT5 .I (.dct ks ds) = false := rfl
theorem tyS_d : isT5 .S (.dct ks ds) = false := rfl
theorem tyL_d : isT5 .L (.dct ks ds) = false := rfl
theorem tyT_d : isT5 .T (.dct ks ds) = false := rfl
theorem d0_1 {g : Int → Int → D} {j : Int} : dI0 g (.int i) (.int j) P = P (.dat (g i j)) := rfl
theorem dI_1 {C : Int → Int → Prop} {g : Int → Int → D} {j : Int} : dI C g (.int i) (.int j) P = (C i j ∧ P (.dat (g i j))) := rfl
theorem ad_i {j : Int} : dAdd (.int i) (.int j) P = P (.dat (.int (i + j))) := rfl
theorem ad_t {es : List D} : dAdd (.tup ds) (.tup es) P = (ds.length + es.length ≤ sizeLine ∧ P (.dat (.tup (ds ++ es)))) := rfl
theorem ad_l {es : List D} : dAdd (.lst ds) (.lst es) P = (ds.length + es.length ≤ sizeLine ∧ P (.new (ds ++ es))) := rfl
theorem ng_1 : dNeg (.int i) P = P (.dat (.int (-i))) := rfl
theorem mv_d : mvE ρ (.dat d) = ρ := rfl
theorem mv_n : mvE ρ (.new ds) = ρ := rfl
theorem mv_v : mvE ρ (.var n) = ρ.set n (some (.dat (vl ρ (.var n)))) := rfl
theorem nn_n {g : Bool} : dIsN g .non .non P = P (.dat (.bl (!g))) := rfl
theorem nn_b {g : Bool} : dIsN g (.bl b) .non P = P (.dat (.bl g)) := rfl
theorem nn_i {g : Bool} : dIsN g (.int i) .non P = P (.dat (.bl g)) := rfl
theorem nn_s {g : Bool} : dIsN g (.str x) .non P = P (.dat (.bl g)) := rfl
theorem nn_l {g : Bool} : dIsN g (.lst ds) .non P = P (.dat (.bl g)) := rfl
theorem nn_t {g : Bool} : dIsN g (.tup ds) .non P = P (.dat (.bl g)) := rfl
theorem nn_x {g : Bool} : dIsN g (.tpx ds) .non P = P (.dat (.bl g)) := rfl
theorem nn_d {g : Bool} : dIsN g (.dct ks ds) .non P = P (.dat (.bl g)) := rfl
theorem it_1 : dInt [.int i] P = P (.dat (.int i)) := rfl
theorem isB_1 {c : Bool} : dIsB (.bl b) (.bl c) P = P (.dat (.bl (decide (b = c)))) := rfl
end
end Z

set_option Elab.async false
set_option linter.all false
set_option maxRecDepth 100000
namespace Z
open PySem L2
variable [TabsP]
/-! ## x += e of ints -/
def dAugI (i : Nat) (g : Int → Int → Int) (te : DT) : DST := fun D ρ => ∃ a : Int, ρ[i]? = some (some (.dat (.int a))) ∧ te ρ fun r ρ1 => ∃ b : Int, r = .dat (.int b) ∧ D.nx (ρ1.set i (some (.dat (.int (g a b)))))
section
variable {X : Cx} {B : Bs} {F H : Hp} {ρ : En} {σ : L2.St} {e o : Expr} {tE : TE} {te : DT} {pos : Pos} {i : Nat}
theorem ds_augI {x : Str} {op : Operator} {g : Int → Int → Int} {pos' : Pos} (hN : X.N.Nodup) (hi : X.N[i]? = some x) (hx : Loc X.env.scope x) (ho : PIp X op (ipI g)) (h : DE X B e tE te) (hf : X.fn x = true ∨ X.env.scope.names.lookup x = some .local := by first | exact .inl rfl | exact .inr rfl | assumption) :
    DS X B (.AugAssign (.Name x pos') op e pos) (tAug i tE (ipI g)) (dAugI i g te) := by
  refine ⟨ps_aug hN hi hx h.pe ho hf, fun F ρ σ H D E l ⟨a, ea, w⟩ k => ?_⟩
  obtain ⟨v, es, hv⟩ := l.var i _ ea
  cases hv
  refine ⟨_, es, h.sim F ρ σ H _ _ l w fun r v F' ρ' H' l' s kp rv p => ?_⟩
  obtain ⟨b, rfl, p⟩ := p
  cases rv
  exact ⟨a, b, rfl, rfl, k.nx F' _ _ H' (l'.set (o := .dat (.int (g a b))) (.int _) fun z => by cases z) s p⟩
/-! ## xs.remove(n) of ints -/
def dRem (i : Nat) (te : DT) : DT := fun ρ P => isOwnL ρ i ∧ te ρ fun r ρ1 => ownAt ρ1 i fun ds => ∃ (ns : List Int) (n : Int) (j : Nat), ds = ns.map D.int ∧ r = .dat (.int n) ∧ ns[j]? = some n ∧ (∀ m : Nat, m < j → ns[m]? ≠ some n) ∧ P (.dat .non) (ρ1.set i (some (.own ((ns.eraseIdx j).map D.int))))
theorem de_remove {apos cpos : Pos} (ho : PE X o (tVar i)) (h : DE X B e tE te) (hK : X.K = B.K := by rfl) (hbase : attributeBase o "remove" X.env (eval o X.env) = eval o X.env := by rfl)
    (hfew : ((backTo cpos (starEach [e] X.env)).all (fun x => !x.1) && (backToKw cpos (keywordEach [] X.env)).all (fun x => x.1.isSome) && decide ([e].length + ([] : List Keyword).length + (if ([] : List Keyword).isEmpty then 0 else 1) < 30)) = true := by rfl)
    (hline : (apos.endLine == cpos.line) = true := by rfl) (hs : starEach [e] X.env = (false, eval e X.env) :: starEach [] X.env := by rfl) (hpl : (backTo cpos (starEach [] X.env)).any (·.1) = false := by rfl) :
    DE X B (.Call (.Attribute o "remove" apos) [e] [] cpos) (tBM B.K "list" rRemI (tVar i) (tCons tE tNil)) (dRem i te) := by
  refine ⟨by rw [← hK]; exact pe_bm PySem.F.plainAttrs_list PySem.F.slot_list_remove PySem.F.type_list_remove mt_remove ho (pa_cons h.pe pa_nil hs) hbase hfew hline hs hpl, fun F ρ σ H P Q l w k => ?_⟩
  obtain ⟨p, es, ty⟩ := own_ty l w.1
  refine ⟨_, es, ty, h.sim F ρ σ H _ _ l w.2 fun r v F' ρ' H' l' s kp rv q => ?_⟩
  obtain ⟨ds, e1, ns, n, j, rfl, rfl, hj, hno, q⟩ := ownAt_of q
  obtain ⟨p', vs, es', h1, h2, m⟩ := l'.mutL e1
  rw [es] at es'
  cases es'
  cases rv
  obtain rfl := h2.ints
  exact ⟨p, ns, n, j, rfl, rfl, h1, hj, hno, k (.dat .non) .non F' _ _ (m _ _ (RvA.ofInts _)) s (kp.trans (Kp.set e1)) .non q⟩
end
/-! ## perm(n, k) of the module math -/
def rPerm : List V → Hp → VK → Prop := fun xs H Q => ∃ a b : Int, xs = [.int a, .int b] ∧ 0 ≤ a ∧ 0 ≤ b ∧ a < 2 ^ 64 ∧ b ≤ 20000 ∧ Q (.int (PySem.W.mcPerm a b)) H
theorem call_perm {X : Cx} : CallR X (.builtin "math.perm") rPerm := by
  intro pins s σ H xs us Q inv rel want
  obtain ⟨a, b, rfl, h1, h2, h3, h4, q⟩ := want
  have two := Vals.int2 rel
  obtain ⟨t1, t2, rfl⟩ := two
  exact PySem.W.mc_perm h1 h2 h3 h4 fun _ => ⟨.int _, H, inv.tok _, ⟨_, rfl⟩, q⟩
def dPerm : List D → (R → Prop) → Prop
  | [.int a, .int b], P => 0 ≤ a ∧ 0 ≤ b ∧ a < 2 ^ 64 ∧ b ≤ 20000 ∧ P (.dat (.int (PySem.W.mcPerm a b)))
  | _, _ => False
theorem pm_1 {a b : Int} {P : R → Prop} : dPerm [.int a, .int b] P = (0 ≤ a ∧ 0 ≤ b ∧ a < 2 ^ 64 ∧ b ≤ 20000 ∧ P (.dat (.int (PySem.W.mcPerm a b)))) := rfl
theorem cad_perm {B : Bs} : CaD B rPerm dPerm := by
  intro F ρ σ H xs ds P Q l a w k
  match ds, w with
  | [.int x, .int y], ⟨h1, h2, h3, h4, w⟩ =>
    cases a with
    | cons a1 a2 =>
      cases a2 with
      | cons a2 a3 =>
        cases a3
        cases a1
        cases a2
        exact ⟨x, y, rfl, h1, h2, h3, h4, k (.dat _) _ F H l (Same.refl _) (.int _) w⟩
section
variable {X : Cx} {B : Bs} {e : Expr} {es : List Expr} {tA : TA} {u : DTA} {x : Str} {p pos : Pos} {id : String} {r : List V → Hp → VK → Prop} {d : List D → (R → Prop) → Prop}
/-- f(..), f a name of the module for a built-in function -/
theorem de_callBf (hc : CallR X (.builtin id) r) (hd : CaD B r d) (hg : Gl X x) (hm : X.mg x = some (.builtin id)) (ha : DA X B (e :: es) tA u) (hdb : (x == ("__debug__" : Str)) = false := by decide)
    (he : starEach (e :: es) X.env = (false, eval e X.env) :: starEach es X.env := by rfl) (hpl : (backTo pos (starEach es X.env)).any (·.1) = false := by rfl) : DE X B (.Call (.Name x p) (e :: es) [] pos) (tCB r tA) (dCa d u) := by
  refine ⟨pe_callBfun hc hg hm ha.pe hdb he hpl, fun F ρ σ H P Q l w k => ha.sim F ρ σ H _ _ l w fun rs vs F' ρ' H' l' s kp al q => ?_⟩
  exact cad_run hd l' al q fun r v F2 H2 l2 s2 rv p => k r v F2 ρ' H2 l2 (s.trans s2) kp rv p
end
/-! ## an error of two fields -/
section
variable {P : Program} {w : World} {K : PySem.W.Frag} {mg : Str → Option Value} {base : Heap} {N ps : List Str} {qual : Str} {st : Stmt} {f C : Addr} {fd : FuncData}
theorem ok_ex2 {f1 f2 : Str} (F : Fun K "__init__" qual st f fd) (S : FnScope N ps (defScope st)) (ox : OexC K C) (n1 : PySem.W.findIn K (.ref C) f1 = some none) (n2 : PySem.W.findIn K (.ref C) f2 = some none) (hl : ps.length = 3)
    (hb : ∀ (cdv : Value) (A : Around) (outer : List PySem.Env) (s : Shared) (H : Hp) (E : XK), PSs (cxOf CX0 P w K mg base N qual (defScope st) f cdv A outer s H E).nox (defBody st) (tSeq (tOst K f1 (tVar 0) (tVar 1)) (tOst K f2 (tVar 0) (tVar 2)))) : FnOk P w K mg base CX0 1 f fd ps (spEx C [f1, f2]) := by
  refine F.ok S (fun vs H Q E h => ?_) (fun cdv A outer s H vs Q E hr h => ⟨_, hb cdv A outer s H E, ?_⟩)
  · obtain ⟨a, xs, rfl, e, _⟩ := h
    rw [hl, List.length_cons, e]
    rfl
  · obtain ⟨a, xs, rfl, e, ha, k⟩ := h
    match xs, e with
    | [x, y], _ =>
      refine ⟨x, start0 rfl, .ref a, start0 rfl, a, C, rfl, ox, n1, .inl ⟨ha, fun d hd nd => ?_⟩⟩
      refine ⟨y, start0 rfl, .ref a, start0 rfl, a, C, rfl, ox, n2, .inr ⟨d, [(f1, x)], upd_same, ?_, (by show 1 ≤ 900; decide), ?_⟩⟩
      · rw [upd_ne nd]
        exact upd_same
      · refine k d _ hd nd ?_ upd_same fun b na nb => ?_
        · rw [upd_ne (Ne.symm nd)]
          exact upd_same
        · rw [upd_ne nb, upd_ne na, upd_ne nb]
end
/-! ## raise C(), C an error without fields -/
structure Bare0 (K : PySem.W.Frag) (mg : Str → Option Value) (x : Str) (C : Addr) : Prop where
  ex : ∃ (bm : List Value) (b n i : String), ExcBaseFacts b n i bm ∧ PySem.W.excIn K C bm n = true
  g : mg x = some (.ref C)
  kp : PySem.W.keepIn K (.ref C) = true
  sb : PySem.W.subIn K (.ref C) (.type "BaseException") = some true
  ty : PySem.W.typeIn K (.ref C) = some (.type "type")
section
variable {X : Cx} {x : Str} {C : Addr} {p pos pos' : Pos}
theorem pmk_bare0 (Y : Bare0 X.K X.mg x C) (hg : Gl X x) (hdb : (x == ("__debug__" : Str)) = false := by decide) : PMk X (.Call (.Name x p) [] [] pos) (fun _ H Q => Q (.ref C) none H) := by
  intro pins s σ H Q I want
  obtain ⟨bm, b, n, i, F, q⟩ := Y.ex
  refine wpAny_Call_Name_kw (ld_glob I hg Y.g ?_ hdb)
  refine PySem.W.callWith_K0 I.kIn Y.kp ?_
  have ob := exc_obj I.kIn q
  obtain ⟨w1, w2, w3, w4, w5, w6, w7, w8, w9, w10, w11, w12, w13, w14, w15, w16, w17, a1, a2, a3, a4⟩ := ob
  exact wpAny_call_exc_subT F a4 a1 a2 a3 (fun h' e made => mk_of I made (raises_own Y.sb Y.ty) want (I.hok.gone made.new)) (Nat.zero_le _)
def dRaise0 (C : Addr) (exE : EXE) : DST := fun _ ρ => exE C [] ρ
theorem ds_raise0 {B : Bs} {W' : WX} {exE : EXE} (Y : Bare0 X.K X.mg x C) (tk : Takes X W') (hc : X.calm = true) (hg : Gl X x) (hl : LXT B exE W') (hdb : (x == ("__debug__" : Str)) = false := by decide) :
    DS X B (.Raise (some (.Call (.Name x p) [] [] pos)) none pos') (fun _ σ H => W' (.ref C) none σ H) (dRaise0 C exE) :=
  ⟨ps_raise hc tk (pmk_bare0 Y hg hdb), fun F ρ σ H D E l w k => hl.2 C F ρ σ H l w⟩
end
end Z

set_option Elab.async false
set_option linter.all false
set_option maxRecDepth 100000
namespace Z
open PySem L2
variable [TabsP]
/-! ## generator defs by values -/
structure DGE where
  nx : List D → En → Prop
  rt : List D → R → Prop
  bk : List D → En → Prop := fun _ _ => False
  ct : List D → En → Prop := fun _ _ => False
abbrev DTG := DGE → List D → En → Prop
structure LkG (B : Bs) (F : Hp) (E : DGE) (D : GEnds) : Prop where
  nx : ∀ F' ρ' σ' H' ys ds, Rel B F' ρ' σ' H' → Same F F' → RvA B.K B.hd F' ys ds → E.nx ds ρ' → D.nx ys σ' H'
  rt : ∀ r v F' H' ys ds, After B F' H' → RvC B F' H' v r → RvA B.K B.hd F' ys ds → E.rt ds r → D.rt ys v H'
  bk : ∀ F' ρ' σ' H' ys ds, Rel B F' ρ' σ' H' → Same F F' → RvA B.K B.hd F' ys ds → E.bk ds ρ' → D.bk ys σ' H'
  ct : ∀ F' ρ' σ' H' ys ds, Rel B F' ρ' σ' H' → Same F F' → RvA B.K B.hd F' ys ds → E.ct ds ρ' → D.ct ys σ' H'
theorem LkG.mono {B : Bs} {F F' : Hp} {E : DGE} {D : GEnds} (h : LkG B F E D) (s : Same F F') : LkG B F' E D :=
  ⟨fun a b c d x y l s2 => h.nx a b c d x y l (s.trans s2), h.rt, fun a b c d x y l s2 => h.bk a b c d x y l (s.trans s2), fun a b c d x y l s2 => h.ct a b c d x y l (s.trans s2)⟩
def SimG (B : Bs) (tS : TGn) (t : DTG) : Prop := ∀ (F : Hp) (ρ : En) (σ : L2.St) (H : Hp) (ys : List V) (ds : List D) (E : DGE) (D : GEnds), Rel B F ρ σ H → RvA B.K B.hd F ys ds → t E ds ρ → LkG B F E D → tS D ys σ H
structure DGS (X : Cx) (B : Bs) (st : Stmt) (tS : TGn) (t : DTG) : Prop where
  gs : GS X st tS
  sim : SimG B tS t
structure DGSs (X : Cx) (B : Bs) (sts : List Stmt) (tS : TGn) (t : DTG) : Prop where
  gs : GSs X sts tS
  sim : SimG B tS t
def dgPlain (t : DST) : DTG := fun E ds ρ => t { nx := E.nx ds, rt := fun _ => False, bk := E.bk ds, ct := E.ct ds } ρ
def dgNext : DTG := fun E ds ρ => E.nx ds ρ
def dgSq (t u : DTG) : DTG := fun E ds ρ => t { E with nx := fun ds' ρ' => u E ds' ρ' } ds ρ
def dgYield (te : DT) : DTG := fun E ds ρ => ds.length < sizeLine ∧ te ρ fun r ρ1 => E.nx (ds ++ [vl ρ1 r]) (mvE ρ1 r)
def dgIf (c : DBT) (t u : DTG) : DTG := fun E ds ρ => c ρ fun b ρ1 => if b = true then t E ds ρ1 else u E ds ρ1
def dgForL (g : DGT) (tb : DTG) (E : DGE) : List D → List D → En → Prop
  | [], ds, ρ => E.nx ds ρ
  | x :: xs, ds, ρ => g x ρ fun ρ1 => tb { E with nx := fun ds' ρ' => dgForL g tb E xs ds' ρ', ct := fun ds' ρ' => dgForL g tb E xs ds' ρ', bk := E.nx } ds ρ1
def dgFor (ti : DIT) (g : DGT) (tb : DTG) : DTG := fun E ds ρ => ti ρ fun xs ρ1 => dgForL g tb E xs ds ρ1
def dgWhile (c : DBT) (tb : DTG) : DTG := fun E ds ρ => ∃ W : Nat → List D → En → Prop, (∃ m, W m ds ρ) ∧ ∀ m ds ρ, W m ds ρ → c ρ fun b ρ1 => if b = true then tb { E with nx := fun ds2 ρ2 => ∃ m', m' < m ∧ W m' ds2 ρ2, ct := fun ds2 ρ2 => ∃ m', m' < m ∧ W m' ds2 ρ2, bk := E.nx } ds ρ1 else E.nx ds ρ1
section
variable {X : Cx} {B : Bs} {st : Stmt} {sts : List Stmt} {tS uS : TGn} {t u : DTG} {tP : TS} {tp : DST} {pos : Pos}
theorem sim_plain (s : SimS B tP tp) : SimG B (tPlain tP) (dgPlain tp) := fun F ρ σ H ys ds E D l a w k =>
  s F ρ σ H _ _ l w ⟨fun F' ρ' σ' H' l' s' q => k.nx F' ρ' σ' H' ys ds l' s' (a.mono s') q, fun r v F' H' af rv q => q.elim, fun F' ρ' σ' H' l' s' q => k.bk F' ρ' σ' H' ys ds l' s' (a.mono s') q, fun F' ρ' σ' H' l' s' q => k.ct F' ρ' σ' H' ys ds l' s' (a.mono s') q⟩
theorem dgs_plain (h : DS X B st tP tp) : DGS X B st (tPlain tP) (dgPlain tp) := ⟨gs_ps h.ps, sim_plain h.sim⟩
theorem dgss_nil : DGSs X B [] tG0 dgNext := ⟨gss_nil, fun F ρ σ H ys ds E D l a w k => k.nx F ρ σ H ys ds l (Same.refl _) a w⟩
theorem dgss_cons (h : DGS X B st tS t) (g : DGSs X B sts uS u) : DGSs X B (st :: sts) (tGThen tS uS) (dgSq t u) :=
  ⟨gss_cons h.gs g.gs, fun F ρ σ H ys ds E D l a w k => h.sim F ρ σ H ys ds _ _ l a w ⟨fun F' ρ' σ' H' ys' ds' l' s' a' q => g.sim F' ρ' σ' H' ys' ds' _ _ l' a' q (k.mono s'), k.rt, k.bk, k.ct⟩⟩
theorem dgss_one (h : DGS X B st tS t) : DGSs X B [st] (tGThen tS tG0) (dgSq t dgNext) := dgss_cons h dgss_nil
theorem dgs_yield {e : Expr} {yp : Pos} {tE : TE} {te : DT} (h : DE X B e tE te) (hco : X.env.scope.isCoroutine = false := by rfl) (hi : interactive X.env = false := by rfl) : DGS X B (.Expr (.Yield (some e) yp) pos) (tGYield tE) (dgYield te) := by
  refine ⟨gs_yield h.pe hco hi, fun F ρ σ H ys ds E D l a w k => ⟨by rw [a.len]; exact w.1, h.sim.frz F ρ σ H _ _ l w.2 fun r v F' ρ' H' l' s kp rv p => ?_⟩⟩
  obtain ⟨F2, s2, l2, rv2⟩ := l'.mv rv
  exact k.nx F2 _ σ H' _ _ l2 (s.trans s2) ((a.mono (s.trans s2)).app (.cons rv2 .nil)) p
theorem dgs_if {c : Expr} {as bs : List Stmt} {tT : TT} {tc : DBT} (hc : DTs X B c tT tc) (ha : DGSs X B as tS t) (hb : DGSs X B bs uS u) : DGS X B (.If c as bs pos) (tGIf tT tS uS) (dgIf tc t u) := by
  refine ⟨gs_if hc.pt ha.gs hb.gs, fun F ρ σ H ys ds E D l a w k => hc.sim F ρ σ H _ _ l w fun b F' ρ' H' l' s kp p => ?_⟩
  cases b with
  | true => exact ha.sim F' ρ' σ H' ys ds E D l' (a.mono s) (by simpa using p) (k.mono s)
  | false => exact hb.sim F' ρ' σ H' ys ds E D l' (a.mono s) (by simpa using p) (k.mono s)
theorem dgs_for {tg iter : Expr} {body : List Stmt} {wi : TI} {g : TG} {tb : TGn} {ti : DIT} {dg : DGT} {td : DTG} {sl : List Nat} (hp : PassesOwn (model X.prog X.w) X.A X.env X.xe) (hc : X.calm = true) (hi : DI X B tg iter wi ti) (hg : DG X B tg sl g dg) (hb : DGSs X B body tb td)
    (hs : ∀ x, foldedSetIterable iter X.env x = pure x := by intro _; rfl) : DGS X B (.For tg iter body [] pos) (tGFor wi g tb) (dgFor ti dg td) := by
  refine ⟨gs_for hp hc hi.pi hg.pg hb.gs hs, fun F ρ σ H ys out E D l a w k => hi.sim F ρ σ H _ _ l w fun J ds F1 ρ1 H1 l1 s1 kp wd p => ?_⟩
  obtain ⟨G, Y, wk, hG, hY⟩ := wd.ex
  refine ⟨fun i m ys2 σ2 H2 => m = ds.length - i ∧ i ≤ ds.length ∧ ∃ (F2 : Hp) (ρ2 : En) (out2 : List Z.D), Rel B F2 ρ2 σ2 H2 ∧ Same F1 F2 ∧ RvA B.K B.hd F2 ys2 out2 ∧ dgForL dg td E (ds.drop i) out2 ρ2, ⟨_, rfl, Nat.zero_le _, F1, ρ1, out, l1, Same.refl _, a.mono s1, p⟩, ?_⟩
  rintro i m ys2 σ2 H2 ⟨rfl, hi', F2, ρ2, out2, l2, s2, a2, p2⟩
  by_cases hlt : i < ds.length
  · refine .inr ⟨wk.goes i H2 hlt (hG F2 ρ2 σ2 H2 l2 s2), fun ys3 σ3 H3 => ∃ (F2 : Hp) (ρ2 : En) (out2 : List Z.D), Rel B F2 ρ2 σ3 H3 ∧ Same F1 F2 ∧ RvA B.K B.hd F2 ys3 out2 ∧ dgForL dg td E (ds.drop (i + 1)) out2 ρ2, fun ys3 σ3 H3 q => ⟨ds.length - (i + 1), by omega, rfl, hlt, q⟩, fun x H3 y => ?_⟩
    obtain ⟨d, F3, ed, l3, s3, rv3, _, _⟩ := hY i F2 ρ2 σ2 H2 x H3 l2 s2 hlt (wk.yields i H2 x H3 hlt (hG F2 ρ2 σ2 H2 l2 s2) y)
    rw [List.drop_eq_getElem_cons hlt, (List.getElem?_eq_some_iff.mp ed).2] at p2
    refine hg.sim F3 ρ2 σ2 H3 x d _ _ l3 rv3 p2 fun F4 ρ4 σ4 H4 l4 s4 o4 p4 => ?_
    refine hb.sim F4 ρ4 σ4 H4 ys2 out2 _ _ l4 (a2.mono (s3.trans s4)) p4 ⟨fun F5 ρ5 σ5 H5 ys5 ds5 l5 s5 a5 q => ⟨F5, ρ5, ds5, l5, s2.trans (s3.trans (s4.trans s5)), a5, q⟩, k.rt, fun F5 ρ5 σ5 H5 ys5 ds5 l5 s5 a5 q => k.nx F5 ρ5 σ5 H5 ys5 ds5 l5 (s1.trans (s2.trans (s3.trans (s4.trans s5)))) a5 q, fun F5 ρ5 σ5 H5 ys5 ds5 l5 s5 a5 q => ⟨F5, ρ5, ds5, l5, s2.trans (s3.trans (s4.trans s5)), a5, q⟩⟩
  · obtain rfl : i = ds.length := by omega
    rw [List.drop_length] at p2
    exact .inl ⟨wk.stops H2 (hG F2 ρ2 σ2 H2 l2 s2), k.nx F2 ρ2 σ2 H2 ys2 out2 l2 (s1.trans s2) a2 p2⟩
theorem dgs_while {c : Expr} {body : List Stmt} {tT : TT} {tc : DBT} {tb : TGn} {td : DTG} (hp : PassesOwn (model X.prog X.w) X.A X.env X.xe) (hc : DTs X B c tT tc) (hb : DGSs X B body tb td) : DGS X B (.While c body [] pos) (tGWhile tT tb) (dgWhile tc td) := by
  refine ⟨gs_while hp hc.pt hb.gs, fun F ρ σ H ys out E D l a w k => ?_⟩
  obtain ⟨W, ⟨m, w0⟩, step⟩ := w
  refine ⟨fun m ys2 σ2 H2 => ∃ (F2 : Hp) (ρ2 : En) (out2 : List Z.D), Rel B F2 ρ2 σ2 H2 ∧ Same F F2 ∧ RvA B.K B.hd F2 ys2 out2 ∧ W m out2 ρ2, ⟨m, F, ρ, out, l, Same.refl _, a, w0⟩, ?_⟩
  rintro m ys2 σ2 H2 ⟨F2, ρ2, out2, l2, s2, a2, w2⟩
  refine hc.sim F2 ρ2 σ2 H2 _ _ l2 (step m out2 ρ2 w2) fun b F3 ρ3 H3 l3 s3 kp p => ?_
  cases b with
  | false => exact k.nx F3 ρ3 σ2 H3 ys2 out2 l3 (s2.trans s3) (a2.mono s3) p
  | true =>
    refine ⟨fun ys4 σ4 H4 => ∃ m', m' < m ∧ ∃ (F2 : Hp) (ρ2 : En) (out2 : List Z.D), Rel B F2 ρ2 σ4 H4 ∧ Same F F2 ∧ RvA B.K B.hd F2 ys4 out2 ∧ W m' out2 ρ2, fun ys4 σ4 H4 q => q, ?_⟩
    refine hb.sim F3 ρ3 σ2 H3 ys2 out2 _ _ l3 (a2.mono s3) p ⟨fun F5 ρ5 σ5 H5 ys5 ds5 l5 s5 a5 ⟨m', hm, q⟩ => ⟨m', hm, F5, ρ5, ds5, l5, s2.trans (s3.trans s5), a5, q⟩, k.rt, fun F5 ρ5 σ5 H5 ys5 ds5 l5 s5 a5 q => k.nx F5 ρ5 σ5 H5 ys5 ds5 l5 (s2.trans (s3.trans s5)) a5 q, fun F5 ρ5 σ5 H5 ys5 ds5 l5 s5 a5 ⟨m', hm, q⟩ => ⟨m', hm, F5, ρ5, ds5, l5, s2.trans (s3.trans s5), a5, q⟩⟩
end
/-! ## a generator def keeps its promise -/
abbrev DWG := List D → (List D → Prop) → EXD → Prop
def spG (K : PySem.W.Frag) (W : DWG) : SpG := fun vs H cont E => ∃ (B : Bs) (ds : List D) (P : List D → Prop) (ex : EXD), B.K = K ∧ B.H0 = H ∧ BOk B ∧ RvA B.K B.hd B.F0 vs ds ∧ W ds P ex ∧ (∀ out ys F' H', P out → After B F' H' → RvA B.K B.hd F' ys out → cont ys H') ∧ LX B ex E
section
variable {P : Program} {w : World} {K : PySem.W.Frag} {mg : Str → Option Value} {base : Heap} {x qual : Str} {st : Stmt} {f : Addr} {fd : FuncData} {N ps : List Str} {k : Nat} {W : DWG}
theorem okG (F : Fun K x qual st f fd) (S : GScope N ps (defScope st)) (hlen : ∀ ds Q ex, W ds Q ex → ds.length = ps.length)
    (hb : ∀ (cdv : Value) (A : Around) (outer : List PySem.Env) (s : Shared) (H : Hp) (E : XK) (pn : List (Addr × Obj)), Room k (A.deeper (PyProof.Rows.envOfC qual (defScope st) s.heap.objs.size f cdv)) → ∀ (md : Option (Addr × Addr)) (F0 : Hp) (a0 : ∀ p, md = some p → ¬ NoO H p.2) (ex : EXD), LX ⟨K, md, F0, H, a0⟩ ex E →
      ∃ tS t, DGSs (gcxOf P w K mg base N qual (defScope st) f cdv A outer s H E pn) ⟨K, md, F0, H, a0⟩ (defBody st) tS t ∧ ∀ ds Q, W ds Q ex → t { nx := fun out _ => Q out, rt := fun out r => r = .dat .non ∧ Q out } [] (startD N ds)) : GFn P w K mg base (k + 1) f fd ps (spG K W) := by
  obtain ⟨oc, od, kV, doc, pm, an, cdv, ct, osl, rfl, lk, hcd⟩ := F.ex
  refine gfn_of lk hcd S (fun vs H Q E h => ?_) fun A outer s H vs Q E pn hr h => ?_
  · obtain ⟨B, ds, P, ex, rfl, rfl, ok, a, w, _⟩ := h
    rw [a.len]
    exact hlen ds _ _ w
  · obtain ⟨⟨K', md, F0, H0, a0⟩, ds, P', ex, rfl, rfl, ok, a, w, hk, hl⟩ := h
    obtain ⟨tS, t, d, q⟩ := hb cdv A outer s H0 E pn hr md F0 a0 ex hl
    refine ⟨tS, d.gs, d.sim F0 _ _ H0 [] [] _ _ (start_rel ok a) .nil (q ds P' w) ⟨fun F' ρ' σ' H' ys ds' l _ a' p => hk ds' ys F' H' p l.to a', fun r v F' H' ys ds' af rv a' p => ?_, fun _ _ _ _ _ _ _ _ _ p => p.elim, fun _ _ _ _ _ _ _ _ _ p => p.elim⟩⟩
    obtain ⟨rfl, p⟩ := p
    cases rv
    exact ⟨rfl, hk ds' ys F' H' p af a'⟩
end
/-! ## list of a call of a generator def -/
structure CalG (P : Program) (w : World) (K : PySem.W.Frag) (mg : Str → Option Value) (base : Heap) (x : Str) (k : Nat) (sp : SpG) : Prop where
  ex : ∃ (f : Addr) (fd : FuncData) (ps : List Str), mg x = some (.ref f) ∧ PySem.W.keepIn K (.ref f) = true ∧ Binds K fd ps [] ∧ GFn P w K mg base k f fd ps sp
/-- E, and no StopIteration -/
def NsE (K : PySem.W.Frag) (E : XK) : XK := fun cls d H => PySem.W.subIn K cls (.type "StopIteration") = some false ∧ E cls d H
def tListGW (K : PySem.W.Frag) (sp : SpG) (dvs : List V) (W' : WX) (t : TA) : TE := fun σ H Q => tListG (tCallG sp dvs (NsE K (WE W' σ)) t) σ H Q
def dListG (K : PySem.W.Frag) (W : DWG) (dd : List D) (exE : EXE) (u : DTA) : DT := fun ρ P => u ρ fun rs ρ1 => rs.any R.isVar = false ∧ W (rs.map (vl ρ1) ++ dd) (fun out => P (.new out) ρ1) fun C fs => PySem.W.subIn K (.ref C) (.type "StopIteration") = some false ∧ exE C fs ρ1
end Z
namespace L2
open PySem PySem.Spec PyProof.Rows GenW
/-- list of a generator, where the exception may speak of what the names hold here -/
theorem listG_at {X : Cx} {k : Nat} {g : Expr} {tg : TGen} {Ex : XK} {nm : Str} {p pos : Pos} {τ : L2.St} (made : PGen X k g tg Ex) (px : PassesAt (L2.CX X.prog X.w) X τ Ex) (ns : NoStop X.K Ex) (room : Room (k + 3) X.A) (gl : Gl X nm) (gm : X.mg nm = none) (bt : bootBuiltins nm = some (.type "list")) (nn : nm ≠ "__name__") (nd : (nm == ("__debug__" : Str)) = false)
    (st1 : starEach [g] X.env = (false, eval g X.env) :: starEach [] X.env) (pins : List (Addr × Obj)) (s : Shared) (H : Hp) (Q : VK) (I : Inv X pins τ H s) (want : tListG tg τ H Q) : wpAny (model X.prog X.w) X.A (eval (.Call (.Name nm p) [g] [] pos) X.env) (EP X pins τ Q) X.xe s := by
  apply wpAny_Call_Name_kw
  refine ld_blt I gl gm bt ?_ nn nd
  apply PyProof.Rows.callWith_type1 _ st1 rfl
  rw [st1]
  change wpAny _ _ (spliced ((false, eval g X.env) :: backTo pos (starEach [] X.env))) _ _ s
  apply Calls.spliced_cons
  refine thn (made.run pins s τ H _ I want) ?_
  rintro u t ⟨G1, sc, ex, J1, okx, made1⟩
  apply Calls.spliced_nil
  have big : sc.heap.objs.size ≤ t.heap.objs.size := by
    obtain ⟨_, _, _, _, b1, b2, _⟩ := made1
    exact Nat.le_of_lt (Nat.lt_of_le_of_lt b1 b2)
  apply call_list_new room J1.ok.frames made1
  · intro S t2 acc c G2 ys z0 z1 z2 z2' z3 z4 z5 z6 z7 z8
    exact ⟨V.ref S, upd G2 S (.lst ys), J1.drained (Nat.le_trans big z0) z2' z1 z2 okx z3 z4 z5 z6 z7, rfl, z8 S z7⟩
  · intro e t2 gn air
    have kin : X.K.In t2.heap := by
      obtain ⟨_, B, _, _, _, _, fl, _, ub, _⟩ := id air
      apply J1.ok.mod.kin.keeps
      intro b o eb
      apply fl.1 b o
      apply ub.keep b o (J1.bs b o eb).1 (J1.bs b o eb).2
      intro inn
      rcases List.mem_cons.mp (J1.stkSub b inn) with z | z
      · have l1 := Heap.lt_size eb
        rw [z] at l1
        exact Nat.lt_irrefl _ (Nat.lt_of_lt_of_le l1 (Nat.le_trans J1.ok.bsz J1.ok.above))
      · exact J1.ok.nofr eb z
    refine ⟨notStop_of ns kin air, px pins G1 sc e _ J1 ?_⟩
    obtain ⟨a, B, G', cls, d, y1, fl, y2, ub, y3, y4, y5, y6⟩ := air
    exact ⟨a, B, G', cls, d, y1, fl, y2, ub, y3, y4, allBare_setGen y5 rfl, y6⟩
end L2
namespace Z
open PySem L2
variable [TabsP]
section
variable {X : Cx} {B : Bs} {x : Str} {k : Nat} {W : DWG} {W' : WX} {exE : EXE} {e : Expr} {es : List Expr} {tA : TA} {u : DTA} {p p2 pos pos2 : Pos}
theorem de_listG {K : PySem.W.Frag} (c : CalG X.prog X.w X.K X.mg X.base x k (spG K W)) (hr : Room (k + 3) X.A) (hg : Gl X x) (gl : Gl X "list") (ml : X.mg "list" = none) (tk : Takes X W') (hl : LXT B exE W') (ha : DA X B (e :: es) tA u) (hK : X.K = K := by rfl)
    (hB : B.K = K := by rfl) (hdb : (x == ("__debug__" : Str)) = false := by decide) (he : starEach (e :: es) X.env = (false, eval e X.env) :: starEach es X.env := by rfl) (hpl : (backTo pos (starEach es X.env)).any (·.1) = false := by rfl)
    (he2 : starEach [.Call (.Name x p) (e :: es) [] pos] X.env = (false, eval (.Call (.Name x p) (e :: es) [] pos) X.env) :: starEach [] X.env := by rfl) :
    DE X B (.Call (.Name "list" p2) [.Call (.Name x p) (e :: es) [] pos] [] pos2) (tListGW K (spG K W) [] W' tA) (dListG K W [] exE u) := by
  subst hB
  obtain ⟨f, fd, ps, hm, hk, hb, FO⟩ := c.ex
  have hr1 : Room k X.A := hr.mono (by omega)
  refine ⟨⟨fun pins s σ H Q I hq => ?_⟩, fun F ρ σ H P Q l w kk => ha.sim F ρ σ H _ _ l w fun rs vs F' ρ' H' l' s kp al q => ?_⟩
  · refine listG_at (Ex := NsE B.K (WE W' σ)) (pgen_call FO hr1 hg hm hk hb .nil ha.pe hdb he hpl) (fun pins' H' s' e' s2 I' cx => ?_) (fun cls d H' q => by rw [hK]; exact q.1) hr gl ml rfl (by decide) (by decide) he2 pins s H Q I hq
    refine passAt tk σ pins' H' s' e' s2 I' ?_
    obtain ⟨a, B', H2, cls, d, r1, r2, r3, r4, r5, r6, r7, r8⟩ := cx
    exact ⟨a, B', H2, cls, d, r1, r2, r3, r4, r5, r6, r7, r8.2⟩
  · obtain ⟨nv, q⟩ := q
    refine ⟨⟨B.K, B.md, F', H', l'.a0⟩, _, _, _, rfl, rfl, ⟨l'.sb, fun p e => ⟨(l'.hnd p e).1, (l'.hnd p e).2.1⟩⟩, (al.plain l' nv).app .nil, q, fun out ys F2 H2 po af ra p np => ?_, fun C fs d fv F2 H2 a e1 e2 e3 q => ⟨q.1, hl.1 C fs d fv F2 ρ' σ H2 (l'.after a).1 e1 e2 e3 q.2⟩, fun C F2 H2 a q => ⟨q.1, hl.2 C F2 ρ' σ H2 (l'.after a).1 q.2⟩⟩
    obtain ⟨l2, s2⟩ := l'.after af
    obtain ⟨l3, n3⟩ := l2.newL np ra
    exact kk (.new out) _ F2 ρ' _ l3 (s.trans s2) kp n3 po
end
theorem dgFor_ind {g : DGT} {tb : DTG} {E : DGE} (I : List D → List D → En → Prop) (h0 : ∀ out ρ, I [] out ρ → E.nx out ρ)
    (h1 : ∀ d ds (C : List D → En → Prop) out ρ, I (d :: ds) out ρ → (∀ out' ρ', I ds out' ρ' → C out' ρ') → g d ρ fun ρ1 => tb { E with nx := C, ct := C, bk := E.nx } out ρ1) : ∀ ds out ρ, I ds out ρ → dgForL g tb E ds out ρ
  | [], out, ρ, h => h0 out ρ h
  | d :: ds, out, ρ, h => h1 d ds _ out ρ h fun out' ρ' h' => dgFor_ind I h0 h1 ds out' ρ' h'
/-! ## a call without arguments -/
def dCall0 (W : DW) : DT := fun ρ P => W [] (fun r => P r ρ) exF
theorem de_call0 {X : Cx} {B : Bs} {x : Str} {k : Nat} {W : DW} {p pos : Pos} {K : PySem.W.Frag} (c : Cal X.prog X.w X.K X.mg X.base CX0 x k (spD K W)) (hr : Room k X.A) (hg : Gl X x) (hB : B.K = K := by rfl) (hdb : (x == ("__debug__" : Str)) = false := by decide) :
    DE X B (.Call (.Name x p) [] [] pos) (tCall (spD K W) [] E0 tNil) (dCall0 W) := by
  subst hB
  obtain ⟨f, fd, ps, hm, hk, hb, FO⟩ := c.ex
  refine ⟨pe_call0 FO hr hg hm hk hb .nil pass0 hdb, fun F ρ σ H P Q l w k => ?_⟩
  refine sp_call (vs := []) (rs := []) (P := fun r => P r ρ) l .nil lx0 (fun _ => .nil) ?_ fun r v F2 H2 l2 s2 rv p => k r v F2 ρ H2 l2 s2 Kp.refl rv p
  have w : W [] (fun r => P r ρ) exF := w
  have e : (fun r => bOk [] r ∧ P r ρ) = fun r => P r ρ := by
    funext r
    refine propext ⟨fun h => h.2, fun h => ⟨fun z => ?_, h⟩⟩
    cases z
  rw [e]
  exact w
end Z

set_option Elab.async false
set_option linter.all false
set_option maxRecDepth 100000
namespace Z
open PySem L2
variable [TabsP]
/-! ## a law: the hand is made, then lent -/
def spHand (K : PySem.W.Frag) : Sp := fun vs H Q _ => ∃ (a : Addr) (ns : List Int), vs = [.ref a] ∧ SqL K H a (ns.map V.int) ∧ ns.length ≤ 63 ∧ ∀ h ha H', Same H H' → Hnd H' h ha → H h = none → H ha = none → Q (.ref h) H'
def spLaw (K : PySem.W.Frag) : Sp := fun vs H Q _ => ∃ (a : Addr) (ns : List Int), vs = [.ref a] ∧ SqL K H a (ns.map V.int) ∧ (ns.length ≤ 63 ∧ LamX.Tabs TabsP.T H) ∧ ∀ H', Q (.bl true) H'
theorem law_go {X : Cx} {K : PySem.W.Frag} {first : Stmt} {rest : List Stmt} {n : Nat} {a : Addr} {ns : List Int} {Q : VK} {H : Hp} {tS : TS} {t : DST}
    (h1 : PS X first (tAsg (tCall (spHand K) [] E0 (tCons (tVar 0) tNil)) (gName 1))) (hd : ∀ (md : Option (Addr × Addr)) (F0 H0 : Hp) (a0 : ∀ p, md = some p → ¬ NoO H0 p.2), DSs X ⟨K, md, F0, H0, a0⟩ rest tS t)
    (w : ∀ DE0 : DEnds, DE0.rt (.dat (.bl true)) → t DE0 (none :: some (OV.dat .hnd) :: List.replicate n none)) (sq : SqL K H a (ns.map V.int)) (hl : ns.length ≤ 63 ∧ LamX.Tabs TabsP.T H) (k : ∀ H', Q (.bl true) H') :
    ∃ t', PSs X (first :: rest) t' ∧ t' { nx := fun _ H' => Q .non H', rt := Q } (some (.ref a) :: none :: List.replicate n none) H := by
  have none0 : ∀ p : Addr × Addr, none = some p → ¬ NoO H p.2 := fun p e => by cases e
  refine ⟨_, pss_cons h1 (hd none (fun _ => none) H none0).ps, ?_⟩
  refine ⟨.ref a, rfl, a, ns, rfl, sq, hl.1, fun h ha H1 s1 n1 _ _ => ?_⟩
  have hh : ¬ NoO H1 ha := n1.ex2.elim fun u hu => someO hu.1 hu.2
  have hh1 : ¬ NoO H1 h := n1.ex1.elim fun u hu => someO hu.1 hu.2
  have sim := (hd (some (h, ha)) (fun _ => none) H1 (fun p e => by cases e; exact hh)).sim
  have tail : ∀ (i : Nat) (o : OV), ((none :: some (OV.dat D.hnd) :: List.replicate n none : En))[i]? = some (some o) → i = 1 ∧ o = .dat .hnd := fun i o e => by
    match i, e with
    | 0, e => cases e
    | 1, e => cases e; exact ⟨rfl, rfl⟩
    | j + 2, e =>
      rw [List.getElem?_cons_succ, List.getElem?_cons_succ, List.getElem?_replicate] at e
      split at e <;> cases e
  refine sim (fun _ => none) (none :: some (OV.dat .hnd) :: List.replicate n none) (some (.ref a) :: some (.ref h) :: List.replicate n none) H1 { nx := fun _ => False, rt := fun r => r = .dat (.bl true) } _ ?_ (w _ rfl) ?_
  · refine ⟨by simp, ⟨(fun b o e => by cases e), (fun b ps e => by cases e), hl.2.ext s1⟩, (fun b o e => e), (fun b hb => absurd rfl hb), (fun b o e _ _ => e), fun p e => ?_, fun i o e => ?_, fun i j o o' v e e' z => ?_⟩
    · cases e
      exact ⟨n1, rfl, hh1⟩
    · obtain ⟨rfl, rfl⟩ := tail i o e
      exact ⟨.ref h, rfl, .hnd rfl⟩
    · obtain ⟨rfl, rfl⟩ := tail i o e
      cases z
  · refine ⟨fun _ _ _ _ _ _ z => z.elim, fun r v F' H' _ rv e => ?_, fun _ _ _ _ _ _ z => z.elim, fun _ _ _ _ _ _ z => z.elim⟩
    subst e
    cases rv
    exact k H'
end Z

set_option Elab.async false
set_option linter.all false
set_option maxRecDepth 100000
namespace Z
open PySem L2
variable [TabsP]
/-! ## objects by values -/

mutual
def noO : D → Bool
  | .obj _ _ _ => false
  | .lst ds => noOA ds
  | .tup ds => noOA ds
  | .tpx ds => noOA ds
  | .dct _ ds => noOA ds
  | _ => true
def noOA : List D → Bool
  | [] => true
  | d :: ds => noO d && noOA ds
end
section
variable {K : PySem.W.Frag} {hd : Option Addr} {F F' : Hp}
theorem SqT.off {a : Addr} {xs : List V} (h : ∀ b u, F b = some u → F' b = some u ∨ ∃ C dx fs, u = .ins C dx fs) (q : SqT K F a xs) : SqT K F' a xs := by
  rcases q with (q | ⟨o, q⟩) | q
  · rcases h _ _ q with z | ⟨_, _, _, z⟩
    · exact .inl (.inl z)
    · cases z
  · rcases h _ _ q with z | ⟨_, _, _, z⟩
    · exact .inl (.inr ⟨o, z⟩)
    · cases z
  · exact .inr q
mutual
theorem Rv.offO (h : ∀ b u, F b = some u → F' b = some u ∨ ∃ C dx fs, u = .ins C dx fs) : ∀ (d : D) (v : V), noO d = true → Rv K hd F v d → Rv K hd F' v d
  | .non, _, _, q => by cases q; exact .non
  | .bl b, _, _, q => by cases q; exact .bl b
  | .int i, _, _, q => by cases q; exact .int i
  | .str x, _, _, q => by cases q; exact .str x
  | .lst ds, _, n, q => by
    cases q with
    | lst a b =>
      rcases h _ _ a with z | ⟨_, _, _, z⟩
      · exact .lst z (RvA.offO h ds _ (by simpa [noO] using n) b)
      · cases z
  | .dct _ ds, _, n, q => by
    cases q with
    | dct a e b =>
      rcases h _ _ a with z | ⟨_, _, _, z⟩
      · exact .dct z e (RvA.offO h ds _ (by simpa [noO] using n) b)
      · cases z
  | .tup ds, _, n, q => by
    cases q with
    | tup a b => exact .tup (SqT.off h a) (RvA.offO h ds _ (by simpa [noO] using n) b)
  | .obj C ns ds, _, n, q => by simp [noO] at n
  | .cls C, _, _, q => by cases q; exact .cls _
  | .ty n, _, _, q => by cases q; exact .ty _
  | .tpx ds, _, n, q => by
    cases q with
    | tpx a e b =>
      rcases h _ _ a with z | ⟨_, _, _, z⟩
      · exact .tpx z e (RvA.offO h ds _ (by simpa [noO] using n) b)
      · cases z
  | .hnd, _, _, q => by
    cases q with
    | hnd e => exact .hnd e
theorem RvA.offO (h : ∀ b u, F b = some u → F' b = some u ∨ ∃ C dx fs, u = .ins C dx fs) : ∀ (ds : List D) (vs : List V), noOA ds = true → RvA K hd F vs ds → RvA K hd F' vs ds
  | [], _, _, q => by cases q; exact .nil
  | d :: ds, _, n, q => by
    simp [noOA] at n
    cases q with
    | cons a b => exact .cons (Rv.offO h d _ n.1 a) (RvA.offO h ds _ n.2 b)
end
theorem noOA_app : ∀ {ds es : List D}, noOA ds = true → noOA es = true → noOA (ds ++ es) = true
  | [], _, _, h => h
  | d :: ds, es, g, h => by
    simp [noOA] at g
    simp [noOA, g.1, noOA_app g.2 h]
theorem lookup_rv {f : Str} : ∀ {fs : List (Str × V)} {ns : List Str} {ds : List D} {d : D}, fs.map (·.1) = ns → RvA K hd F (fs.map (·.2)) ds → (ns.zip ds).lookup f = some d → ∃ v, fs.lookup f = some v ∧ Rv K hd F v d
  | [], ns, ds, d, e, a, l => by
    subst e
    cases l
  | (g, v) :: fs, ns, ds, d, e, a, l => by
    subst e
    cases a with
    | cons a1 a2 =>
      by_cases hfg : f = g
      · subst hfg
        rw [List.map_cons, List.zip_cons_cons, List.lookup_cons_self] at l
        cases l
        exact ⟨v, List.lookup_cons_self, a1⟩
      · rw [List.map_cons, List.zip_cons_cons, List.lookup_cons, beq_false_of_ne hfg] at l
        obtain ⟨w, e1, e2⟩ := lookup_rv rfl a2 l
        exact ⟨w, by rw [List.lookup_cons, beq_false_of_ne hfg]; exact e1, e2⟩
theorem lookup_none {f : Str} : ∀ {fs : List (Str × V)}, f ∉ fs.map (·.1) → fs.lookup f = none
  | [], _ => rfl
  | (g, v) :: fs, h => by
    rw [List.map_cons, List.mem_cons, not_or] at h
    rw [List.lookup_cons, beq_false_of_ne h.1]
    exact lookup_none h.2
theorem putF_new {f : Str} {v : V} : ∀ {fs : List (Str × V)}, f ∉ fs.map (·.1) → putF f v fs = fs ++ [(f, v)]
  | [], _ => rfl
  | (g, x) :: fs, h => by
    rw [List.map_cons, List.mem_cons, not_or] at h
    show (if g = f then _ else _) = _
    rw [if_neg (Ne.symm h.1), putF_new h.2]
    rfl
end
/-! ### o.f -/
def dFld (K : PySem.W.Frag) (f : Str) (te : DT) : DT := fun ρ P => te ρ fun r ρ1 => ∃ C ns ds d, r = .dat (.obj C ns ds) ∧ Cls K C ∧ NoAttr K C f ∧ (ns.zip ds).lookup f = some d ∧ P (.dat d) ρ1
structure CalM (P : Program) (w : World) (K : PySem.W.Frag) (mg : Str → Option Value) (base : Heap) (CX : CXT) (C : Addr) (m : Str) (k : Nat) (sp : Sp) : Prop where
  ex : ∃ (f : Addr) (fd : FuncData) (ps : List Str), Meth K C m f ∧ Binds K fd ps [] ∧ FnOk P w K mg base CX k f fd ps sp
def dMeth (W : DW) (C : Addr) (m : Str) (te : DT) (u : DTA) : DT := fun ρ P => te ρ fun r ρ1 => ∃ ns ds, r = .dat (.obj C ns ds) ∧ m ∉ ns ∧ u ρ1 fun rs ρ2 => W (.obj C ns ds :: rs.map (vl ρ2)) (fun x => bOk rs x ∧ P x ρ2) exF
section
variable {X : Cx} {B : Bs} {e o : Expr} {es : List Expr} {tE : TE} {te : DT} {tA : TA} {u : DTA} {f m : Str} {C : Addr} {k : Nat} {W : DW} {pos apos : Pos}
theorem de_fld (K : PySem.W.Frag) (h : DE X B e tE te) (hb : attributeBase e f X.env (eval e X.env) = eval e X.env) (hK : X.K = B.K := by rfl) (hB : B.K = K := by rfl) : DE X B (.Attribute e f pos) (tFld K tE f) (dFld K f te) := by
  subst hB
  refine ⟨by rw [← hK]; exact pe_fld h.pe hb, fun F ρ σ H P Q l w k => h.sim F ρ σ H _ _ l w fun r v F' ρ' H' l' s kp rv p => ?_⟩
  obtain ⟨C, ns, ds, d, rfl, c, n, lk, p⟩ := p
  cases rv with
  | obj ea en ra =>
    obtain ⟨v, ev, rv⟩ := lookup_rv en ra lk
    exact ⟨_, _, _, _, v, rfl, l'.sub _ _ ea, c, n, ev, k (.dat d) v F' ρ' H' l' s kp rv p⟩
theorem meth_go {F H : Hp} {ρ : En} {σ : L2.St} {a : Addr} {vs : List V} {rs : List R} {ns : List Str} {ds : List D} {P : R → Prop} {Q : VK} (l : Rel B F ρ σ H) (ho : Rv B.K B.hd F (.ref a) (.obj C ns ds)) (h : AllR B F ρ σ H vs rs)
    (w : W (.obj C ns ds :: rs.map (vl ρ)) (fun r => bOk rs r ∧ P r) exF) (k : Kt B F ρ σ P Q) : spD B.K W (.ref a :: (vs ++ [])) H Q E0 := by
  have h2 : AllR B F ρ σ H (.ref a :: vs) (.dat (.obj C ns ds) :: rs) := .cons ho h
  refine sp_call (vs := .ref a :: vs) (rs := .dat (.obj C ns ds) :: rs) (dd := []) l h2 lx0 (fun _ => .nil) ?_ k
  rw [List.append_nil]
  have e : (fun r => bOk (.dat (.obj C ns ds) :: rs) r ∧ P r) = fun r => bOk rs r ∧ P r := by
    funext r
    refine propext ⟨fun h => ⟨fun z => h.1 (by rw [List.any_cons, z, Bool.or_true]), h.2⟩, fun h => ⟨fun z => h.1 ?_, h.2⟩⟩
    rw [List.any_cons] at z
    exact z
  rw [e]
  exact w
theorem de_meth {pl : Sem Bool} {K : PySem.W.Frag} (c : CalM X.prog X.w X.K X.mg X.base CX0 C m k (spD K W)) (cl : Cls X.K C) (ho : DE X B o tE te) (hr : Room k X.A) (ha : DA X B (e :: es) tA u) (hB : B.K = K := by rfl)
    (hst : starEach (e :: es) X.env = (false, eval e X.env) :: starEach es X.env := by rfl) (hpl : (backTo pos (starEach es X.env)).any (·.1) = false := by rfl)
    (ht : eval (.Call (.Attribute o m apos) (e :: es) [] pos) X.env = (do
      let ov ← eval o X.env
      standAt apos.atName
      let (f, first) ← holding [ov] (getMethod ov m pl)
      callWith pos f first (backTo pos (starEach (e :: es) X.env)) (backToKw pos (keywordEach [] X.env))) := by rfl) :
    DE X B (.Call (.Attribute o m apos) (e :: es) [] pos) (tMeth C m (spD K W) [] E0 tE tA) (dMeth W C m te u) := by
  subst hB
  obtain ⟨f, fd, ps, hm, hb, FO⟩ := c.ex
  refine ⟨pe_meth ho.pe cl hm FO hr hb .nil pass0 ha.pe hst hpl ht, fun F ρ σ H P Q l w k => ho.sim F ρ σ H _ _ l w fun r v F' ρ' H' l' s kp rv p => ?_⟩
  obtain ⟨ns, ds, rfl, nm, p⟩ := p
  cases rv with
  | obj ea en ra =>
    refine ⟨_, _, _, rfl, l'.sub _ _ ea, lookup_none (by rw [en]; exact nm), ha.sim F' ρ' σ H' _ _ l' p fun rs vs F2 ρ2 H2 l2 s2 kp2 al q => ?_⟩
    exact meth_go l2 (Rv.mono (.obj ea en ra) s2) al q fun r v F3 H3 l3 s3 rv p => k r v F3 ρ2 H3 l3 (s.trans (s2.trans s3)) (kp.trans kp2) rv p
theorem de_meth0 {pl : Sem Bool} {K : PySem.W.Frag} (c : CalM X.prog X.w X.K X.mg X.base CX0 C m k (spD K W)) (cl : Cls X.K C) (ho : DE X B o tE te) (hr : Room k X.A) (hB : B.K = K := by rfl)
    (ht : eval (.Call (.Attribute o m apos) [] [] pos) X.env = (do
      let ov ← eval o X.env
      standAt apos.atName
      let (f, first) ← holding [ov] (getMethod ov m pl)
      callWith pos f first (backTo pos (starEach [] X.env)) (backToKw pos (keywordEach [] X.env))) := by rfl) :
    DE X B (.Call (.Attribute o m apos) [] [] pos) (tMeth C m (spD K W) [] E0 tE tNil) (dMeth W C m te dNil) := by
  subst hB
  obtain ⟨f, fd, ps, hm, hb, FO⟩ := c.ex
  refine ⟨pe_meth0 ho.pe cl hm FO hr hb .nil pass0 ht, fun F ρ σ H P Q l w k => ho.sim F ρ σ H _ _ l w fun r v F' ρ' H' l' s kp rv p => ?_⟩
  obtain ⟨ns, ds, rfl, nm, p⟩ := p
  cases rv with
  | obj ea en ra =>
    refine ⟨_, _, _, rfl, l'.sub _ _ ea, lookup_none (by rw [en]; exact nm), ?_⟩
    exact meth_go (rs := []) l' (.obj ea en ra) .nil p fun r v F3 H3 l3 s3 rv p => k r v F3 ρ' H3 l3 (s.trans s3) kp rv p
end
end Z

set_option Elab.async false
set_option linter.all false
set_option maxRecDepth 100000
namespace Z
open PySem L2
variable [TabsP]
/-! ## an object is made -/
/-- what stands behind __init__ of the object at x -/
def AfterI (B : Bs) (x : Addr) (F' H' : Hp) : Prop := Same B.F0 F' ∧ Sub F' H' ∧ (∀ b, F' b ≠ none → B.F0 b ≠ none ∨ NoO B.H0 b ∨ b = x) ∧ (∀ b o, B.H0 b = some o → b ≠ x → (∀ p, B.md = some p → b ≠ p.1) → ¬ IsTbl o → H' b = some o) ∧ ∀ p, B.md = some p → Hnd H' p.1 p.2 ∧ F' p.1 = none
/-- x at the entry -/
structure XB (B : Bs) (x dx C : Addr) : Prop where
  h0 : B.H0 x = some (.ins C dx [])
  f0 : B.F0 x = none
  nh : ∀ p, B.md = some p → x ≠ p.1
/-- a promise of __init__: the fields' names, their values -/
abbrev DWI := List D → (List D → Prop) → EXD → Prop
def spI (K : PySem.W.Frag) (C : Addr) (ns : List Str) (W : DWI) : Sp := fun vs H Q E => ∃ (B : Bs) (x dx : Addr) (ws : List V) (args : List D) (P : List D → Prop) (ex : EXD), B.K = K ∧ B.H0 = H ∧ BOk B ∧ vs = .ref x :: ws ∧ XB B x dx C ∧ RvA B.K B.hd B.F0 ws args ∧ W args P ex ∧
  (∀ ds fs F' H', P ds → AfterI B x F' H' → F' x = some (.ins C dx fs) → fs.map (·.1) = ns → RvA B.K B.hd F' (fs.map (·.2)) ds → Q .non H') ∧ LX B ex E
/-! ### the call C(..) -/
structure MkI (P : Program) (w : World) (K : PySem.W.Frag) (mg : Str → Option Value) (base : Heap) (CX : CXT) (x : Str) (C : Addr) (k : Nat) (sp : Sp) : Prop where
  ex : ∃ (f : Addr) (fd : FuncData) (ps : List Str), mg x = some (.ref C) ∧ Mk K C f ∧ Binds K fd ps [] ∧ FnOk P w K mg base CX k f fd ps sp
def dMake (C : Addr) (ns : List Str) (W : DWI) (exE : EXE) (u : DTA) : DT := fun ρ P => u ρ fun rs ρ1 => rs.any R.isVar = false ∧ W (rs.map (vl ρ1)) (fun ds => P (.dat (.obj C ns ds)) ρ1) fun C fs => exE C fs ρ1
theorem Hnd.offI {H : Hp} {h a x C dx : Addr} {fs : List (Str × V)} {o : HO} (hn : Hnd H h a) (e : H x = some (.ins C dx fs)) : Hnd (upd H x o) h a := by
  obtain ⟨cs, i, r, t, e1, e2, q⟩ := hn.ex
  have n1 : h ≠ x := fun z => by rw [z, e] at e1; cases e1
  have n2 : a ≠ x := fun z => by rw [z, e] at e2; cases e2
  exact ⟨cs, i, r, t, by rw [upd_ne n1]; exact e1, by rw [upd_ne n2]; exact e2, q⟩
section
variable {B : Bs} {F F' H H' : Hp} {ρ : En} {σ : L2.St}
/-- the caller's view behind the making -/
theorem madeI (l : Rel B F ρ σ H) {x dx C : Addr} {ns : List Str} {ds : List D} {fs : List (Str × V)} (nx : H x = none) (nd : H dx = none) (ne : dx ≠ x) {a0 : ∀ p, B.md = some p → ¬ NoO (upd (upd H dx (.own x)) x (.ins C dx [])) p.2}
    (a : AfterI ⟨B.K, B.md, F, upd (upd H dx (.own x)) x (.ins C dx []), a0⟩ x F' H') (e : F' x = some (.ins C dx fs)) (en : fs.map (·.1) = ns) (ra : RvA B.K B.hd F' (fs.map (·.2)) ds) :
    Rel B F' ρ σ H' ∧ Same F F' ∧ Rv B.K B.hd F' (.ref x) (.obj C ns ds) := by
  obtain ⟨a1, a2, a3, a4, a5⟩ := a
  have s : Same F F' := a1
  have up : ∀ b o, H b = some o → upd (upd H dx (.own x)) x (.ins C dx []) b = some o := fun b o e => by
    rw [upd_ne (ne_of_none e nx), upd_ne (ne_of_none e nd)]
    exact e
  have keep : ∀ b o, H b = some o → (∀ p, B.md = some p → b ≠ p.1) → ¬ IsTbl o → H' b = some o := fun b o e n t => a4 b o (up b o e) (ne_of_none e nx) n t
  have back : ∀ b, NoO (upd (upd H dx (.own x)) x (.ins C dx [])) b → NoO H b := fun b z o q => z o (up b o q)
  refine ⟨⟨l.len, a2, l.fro.trans s, fun b hb => ?_, fun b o e n t => keep b o (l.kept b o e n t) n t, fun p e => ⟨(a5 p e).1, (a5 p e).2, (l.hnd p e).2.2⟩, fun i o e => ?_, l.ap⟩, s, .obj e en ra⟩
  · rcases a3 b hb with z | z | rfl
    · exact l.new b z
    · exact .inr (l.no0 (back b z))
    · exact .inr (l.no0 (.of nx))
  · obtain ⟨v, e1, h⟩ := l.var i o e
    refine ⟨v, e1, h.mono s fun p u ev w hp => ?_⟩
    subst ev
    obtain ⟨p', u', e', _, n', n0, _⟩ := h.own w
    cases e'
    have knt : ¬ IsTbl u := h.nt w rfl hp
    refine ⟨keep p u hp (fun q eq z => (l.hnd q eq).2.2 (by rw [← z]; exact n0)) knt, ?_⟩
    cases q : F' p with
    | none => rfl
    | some y =>
      rcases a3 p (by rw [q]; simp) with z | z | z
      · exact absurd n' z
      · exact (knt (back p z u hp)).elim
      · rw [z, nx] at hp; cases hp
end
theorem afterMk {B : Bs} {F F' H H' H1 : Hp} {ρ : En} {σ : L2.St} (l : Rel B F ρ σ H) {a0 : ∀ p, B.md = some p → ¬ NoO H1 p.2} (up : ∀ b o, H b = some o → H1 b = some o) (a : After ⟨B.K, B.md, F, H1, a0⟩ F' H') : Rel B F' ρ σ H' := by
  have l1 : Rel B F ρ σ H1 := l.grow (Same.refl _) (fun b o e => up b o e) (fun b o e => up b o (l.sub b o e)) (fun b hb => .inl hb) fun b ps e => by rw [e]; simp
  exact (l1.after a).1
end Z
namespace L2
open PySem PySem.Spec PyProof.Rows
theorem makeAt {X : Cx} {k : Nat} {f C : Addr} {fd : FuncData} {ps : List Str} {sp : Sp} {E : XK} {pins : List (Addr × Obj)} {τ : L2.St} {H : Hp} {s : Shared} {Q : VK} {us : List Value} {vs : List V} (M : Mk X.K C f) (FO : FnOk X.prog X.w X.K X.mg X.base (L2.CX X.prog X.w) k f fd ps sp) (room : Room (k + 1) X.A) (bd : Binds X.K fd ps [])
    (px : PassesAt (L2.CX X.prog X.w) X τ E) (J : Inv X pins τ H s) (rels : Vals vs us) (want : ∀ o d, H o = none → H d = none → d ≠ o → sp (.ref o :: (vs ++ [])) (upd (upd H d (.own o)) o (.ins C d [])) (fun v H2 => v = .non ∧ Q (.ref o) H2) E) :
    wpAny (model X.prog X.w) X.A (call (.ref C) us) (EP X pins τ Q) X.xe s := by
  have goal := want (s.heap.objs.size + 1) s.heap.objs.size (J.hok.fresh (Nat.le_succ _)) (J.hok.fresh (Nat.le_refl _)) (Nat.ne_of_lt (Nat.lt_succ_self _))
  rw [List.append_nil] at goal
  have J2 := Inv.made (C := C) J
  have rels2 : Vals (V.ref (s.heap.objs.size + 1) :: vs) (Value.ref (s.heap.objs.size + 1) :: us) := .cons rfl rels
  have many : (Value.ref (s.heap.objs.size + 1) :: us).length = ps.length := by
    have e := rels2.length
    rw [FO.len _ _ _ _ goal] at e
    exact e.symm
  have bound := bd _ (Value.ref (s.heap.objs.size + 1) :: us) J2.kIn (by rw [List.append_nil]; exact many)
  rw [List.append_nil] at bound
  refine wpAny_call (make_map (f := f) J.kIn M.makes M.init (beq_iff_eq.mp M.fn) (codeAny_mono (FO.run _ X.stack _ _ ⟨Value.ref (s.heap.objs.size + 1) :: us, []⟩ (Value.ref (s.heap.objs.size + 1) :: us) _ _ E (room.make C us []) (J2.env0.make C us []) bound rels2 goal) fun res t got => ?_))
  match res, got with
  | .error er, got => exact px pins _ _ er t J2 got
  | .ok (.ret u), got =>
    obtain ⟨v, G, J3, rv, ev, q3⟩ := J2.after got
    subst ev
    exact ⟨rv, ⟨V.ref (s.heap.objs.size + 1), G, J3, rfl, q3⟩⟩
  | .ok .next, got => exact False.elim got
  | .ok .brk, got => exact False.elim got
  | .ok .cont, got => exact False.elim got
end L2
namespace Z
open PySem L2
variable [TabsP]
section
variable {X : Cx} {B : Bs} {x : Str} {C : Addr} {k : Nat} {ns : List Str} {W : DWI} {W' : WX} {exE : EXE} {e : Expr} {es : List Expr} {tA : TA} {u : DTA} {p pos : Pos}
theorem de_make {K : PySem.W.Frag} (c : MkI X.prog X.w X.K X.mg X.base (L2.CX X.prog X.w) x C k (spI K C ns W)) (hr : Room (k + 1) X.A) (hg : Gl X x) (tk : Takes X W') (hl : LXT B exE W') (ha : DA X B (e :: es) tA u) (hB : B.K = K := by rfl)
    (hdb : (x == ("__debug__" : Str)) = false := by decide) (he : starEach (e :: es) X.env = (false, eval e X.env) :: starEach es X.env := by rfl) (hpl : (backTo pos (starEach es X.env)).any (·.1) = false := by rfl) :
    DE X B (.Call (.Name x p) (e :: es) [] pos) (fun σ H Q => tMake C (spI K C ns W) [] (WE W' σ) tA σ H Q) (dMake C ns W exE u) := by
  subst hB
  obtain ⟨f, fd, ps, hm, M, hb, FO⟩ := c.ex
  refine ⟨⟨fun pins s σ H Q I h => ?_⟩, fun F ρ σ H P Q l w k => ha.sim F ρ σ H _ _ l w fun rs vs F' ρ' H' l' s kp al ⟨nv, q⟩ => ?_⟩
  · refine wpAny_Call_Name_kw (ld_glob I hg hm ?_ hdb)
    refine PySem.W.callWith_K (h₀ := X.base) I.ok.mod.kin M.kp (thn (ha.pe.run pos pins s σ H _ I h) fun us s1 ⟨vs, H1, I1, r, q⟩ => ⟨I1.kIn, ?_⟩) he hpl
    exact makeAt M FO hr hb (passAt tk σ) I1 r q
  · rw [List.append_nil]
    intro x' dx nx nd ne
    have a0 : ∀ p, B.md = some p → ¬ NoO (upd (upd H' dx (.own x')) x' (.ins C dx [])) p.2 := fun p e => by
      obtain ⟨o, eo, t⟩ := (l'.hnd p e).1.ex2
      refine someO ?_ t
      rw [upd_ne (ne_of_none eo nx), upd_ne (ne_of_none eo nd), eo]
    have up : ∀ b o, H' b = some o → upd (upd H' dx (.own x')) x' (.ins C dx []) b = some o := fun b o e => by
      rw [upd_ne (ne_of_none e nx), upd_ne (ne_of_none e nd)]
      exact e
    refine ⟨⟨B.K, B.md, F', _, a0⟩, x', dx, vs, _, _, _, rfl, rfl, ⟨⟨fun b o e => up b o (l'.sub b o e), l'.sb.nt, l'.sb.tb.ext fun b o e => up b o e⟩, fun p e => ⟨(l'.hnd p e).1.same (fun b o e => up b o e), (l'.hnd p e).2.1⟩⟩, rfl, ⟨upd_same, l'.noF nx, fun p e z => ?_⟩, al.plain l' nv, q, fun ds fs F2 H2 pd af ex en ra => ⟨rfl, ?_⟩, fun C2 fs2 d fv F2 H2 af e1 e2 e3 q => ?_, fun C2 F2 H2 af q => ?_⟩
    · obtain ⟨h1, _, _⟩ := l'.hnd p e
      obtain ⟨o, eo⟩ := h1.there
      rw [← z, nx] at eo; cases eo
    · obtain ⟨l2, s2, rv⟩ := madeI l' nx nd ne af ex en ra
      exact k (.dat (.obj C ns ds)) _ F2 ρ' H2 l2 (s.trans s2) kp rv pd
    · exact hl.1 C2 fs2 d fv F2 ρ' σ H2 (afterMk l' up af) e1 e2 e3 q
    · exact hl.2 C2 F2 ρ' σ H2 (afterMk l' up af) q
end
end Z

set_option Elab.async false
set_option linter.all false
set_option maxRecDepth 100000
namespace Z
open PySem L2
variable [TabsP]
/-! ## the body of an __init__: plain statements, then self.f = e -/
/-- all names but the first hold values without an object -/
def okE (ρ : En) : Bool := (ρ.drop 1).all fun o => match o with
  | none => true
  | some (.dat d) => noO d
  | some _ => false
theorem okE_at {ρ : En} (h : okE ρ = true) {i : Nat} {o : OV} (hi : i ≠ 0) (e : ρ[i]? = some (some o)) : ∃ d, o = .dat d ∧ noO d = true := by
  obtain ⟨j, rfl⟩ : ∃ j, i = j + 1 := ⟨i - 1, by omega⟩
  unfold okE at h
  rw [List.all_eq_true] at h
  have hm : some o ∈ ρ.drop 1 := by
    refine List.mem_of_getElem? (i := j) ?_
    rw [List.getElem?_drop, Nat.add_comm]
    exact e
  have q := h _ hm
  cases o with
  | dat d => exact ⟨d, rfl, q⟩
  | own ds => cases q
  | dic ks ds => cases q
structure StI (B0 : Bs) (x dx C : Addr) (F : Hp) (ρ : En) (σ : L2.St) (H : Hp) (fs : List (Str × V)) (ns : List Str) (ds : List D) : Prop where
  rel : ∃ a0, Rel ⟨B0.K, B0.md, F, H, a0⟩ F ρ σ H
  e0 : ρ[0]? = some (some (.dat (.obj C ns ds)))
  v0 : σ[0]? = some (some (.ref x))
  fx : F x = some (.ins C dx fs)
  nm : fs.map (·.1) = ns
  fv : RvA B0.K B0.hd F (fs.map (·.2)) ds
  fo : noOA ds = true
  oth : okE ρ = true
  aft : AfterI B0 x F H
  f0 : B0.F0 x = none
abbrev Fin1 := List Str → List D → Prop
abbrev DXT := List Str → List D → Fin1 → En → Prop
def FinK (B0 : Bs) (x dx C : Addr) (fin : Fin1) (E : Ends) : Prop := ∀ F' σ' H' fs ns ds, AfterI B0 x F' H' → F' x = some (.ins C dx fs) → fs.map (·.1) = ns → RvA B0.K B0.hd F' (fs.map (·.2)) ds → fin ns ds → E.nx σ' H'
structure DXS (X : Cx) (K : PySem.W.Frag) (C : Addr) (sts : List Stmt) (tS : TS) (t : DXT) : Prop where
  ps : PSs X sts tS
  sim : ∀ (B0 : Bs) (x dx : Addr) (F : Hp) (ρ : En) (σ : L2.St) (H : Hp) (fs : List (Str × V)) (ns : List Str) (ds : List D) (fin : Fin1) (E : Ends), B0.K = K → (∀ p, B0.md = some p → x ≠ p.1) → StI B0 x dx C F ρ σ H fs ns ds → t ns ds fin ρ → FinK B0 x dx C fin E → tS E σ H
def dxNil : DXT := fun ns ds fin _ => fin ns ds
def dxSet (K : PySem.W.Frag) (C : Addr) (f : Str) (te : DT) (u : DXT) : DXT := fun ns ds fin ρ => Cls K C ∧ NoAttr K C f ∧ te ρ fun r ρ1 => (mvE ρ1 r)[0]? = some (some (.dat (.obj C ns ds))) ∧ noO (vl ρ1 r) = true ∧ okE (mvE ρ1 r) = true ∧ f ∉ ns ∧ ns.length < 1000 ∧
  u (ns ++ [f]) (ds ++ [vl ρ1 r]) fin ((mvE ρ1 r).set 0 (some (.dat (.obj C (ns ++ [f]) (ds ++ [vl ρ1 r])))))
section
variable {X : Cx} {K : PySem.W.Frag} {C : Addr} {sts : List Stmt} {tS : TS} {t : DXT}
theorem dxs_nil : DXS X K C [] tNext dxNil := ⟨pss_nil, fun B0 x dx F ρ σ H fs ns ds fin E hK hx S w k => k F σ H fs ns ds S.aft S.fx S.nm S.fv w⟩
theorem okE_set {ρ : En} {o : Option OV} (h : okE ρ = true) : okE (ρ.set 0 o) = true := by
  cases ρ with
  | nil => exact h
  | cons a r => exact h
theorem dxs_set {o value : Expr} {f : Str} {p' pos : Pos} {tE : TE} {te : DT} (ho : PE X o (tVar 0)) (hd : ∀ (md : Option (Addr × Addr)) (F0 H0 : Hp) (a0 : ∀ p, md = some p → ¬ NoO H0 p.2), DE X ⟨K, md, F0, H0, a0⟩ value tE te) (g : DXS X K C sts tS t)
    (hs : swapsWith value (some (.Attribute o f p')) pos.line X.env = pure false) (hK : X.K = K := by rfl) : DXS X K C (.Assign [.Attribute o f p'] value pos :: sts) (tSeq (sFld K (tVar 0) tE f) tS) (dxSet K C f te t) := by
  refine ⟨pss_cons (by rw [← hK]; exact ps_fld ho (hd none (fun _ => none) (fun _ => none) (fun p e => by cases e)).pe hs) g.ps, fun B0 x dx F ρ σ H fs ns ds fin E hB hx S w k => ?_⟩
  obtain ⟨cl, na, w⟩ := w
  obtain ⟨⟨a0, l⟩, e0, v0, fx, nm, fv, fo, oth, aft, f0⟩ := S
  subst hB
  refine (hd B0.md F H a0).sim.frz F ρ σ H _ _ l w fun r y F1 ρ1 H1 l1 s1 kp rv p => ?_
  obtain ⟨F2, s2, l2, rv2⟩ := l1.mv rv
  obtain ⟨q0, q1, q2, q3, q4, p⟩ := p
  have f2x : F2 x = some (.ins C dx fs) := s2 _ _ (s1 _ _ fx)
  have h1x : H1 x = some (.ins C dx fs) := l2.sub _ _ f2x
  have nin : f ∉ fs.map (·.1) := by rw [nm]; exact q3
  refine ⟨.ref x, v0, x, C, dx, fs, rfl, h1x, cl, na, by have := congrArg List.length nm; rw [List.length_map] at this; omega, ?_⟩
  rw [putF_new nin]
  have offF : ∀ b u, F2 b = some u → upd F2 x (.ins C dx (fs ++ [(f, y)])) b = some u ∨ ∃ C dx fs, u = .ins C dx fs := fun b u e => by
    by_cases hb : b = x
    · subst hb
      rw [f2x] at e
      cases e
      exact .inr ⟨_, _, _, rfl⟩
    · exact .inl (by rw [upd_ne hb]; exact e)
  have hh : ∀ p, B0.md = some p → Hnd (upd H1 x (.ins C dx (fs ++ [(f, y)]))) p.1 p.2 ∧ upd F2 x (.ins C dx (fs ++ [(f, y)])) p.1 = none := fun p e => by
    obtain ⟨h1, h2, _⟩ := l2.hnd p e
    exact ⟨h1.offI h1x, by rw [upd_ne (Ne.symm (hx p e))]; exact h2⟩
  have hn2 : ∀ p, B0.md = some p → ¬ NoO (upd H1 x (.ins C dx (fs ++ [(f, y)]))) p.2 := fun p e => (hh p e).1.ex2.elim fun u hu => someO hu.1 hu.2
  have nt2 : ∀ b ps, upd F2 x (.ins C dx (fs ++ [(f, y)])) b ≠ some (.tbl ps) := fun b ps z => by
    by_cases hb : b = x
    · subst hb
      rw [upd_same] at z
      cases z
    · rw [upd_ne hb] at z
      exact l2.sb.nt b ps z
  have tb2 : LamX.Tabs TabsP.T (upd H1 x (.ins C dx (fs ++ [(f, y)]))) := tabs_upd l2.sb.tb fun w e => by
    rw [h1x] at e
    cases e
    exact ⟨fun _ z => (by cases z), fun _ z => (by cases z)⟩
  have sb2 : ∀ b o, upd F2 x (.ins C dx (fs ++ [(f, y)])) b = some o → upd H1 x (.ins C dx (fs ++ [(f, y)])) b = some o := fun b o e => by
    by_cases hb : b = x
    · subst hb
      rw [upd_same] at e ⊢
      exact e
    · rw [upd_ne hb] at e ⊢
      exact l2.sub _ _ e
  have ra : RvA B0.K B0.hd (upd F2 x (.ins C dx (fs ++ [(f, y)]))) ((fs ++ [(f, y)]).map (·.2)) (ds ++ [vl ρ1 r]) := by
    rw [List.map_append]
    exact (RvA.offO offF ds _ fo (fv.mono (s1.trans s2))).app (.cons (Rv.offO offF _ _ q1 rv2) .nil)
  have len0 : 0 < (mvE ρ1 r).length := (List.getElem?_eq_some_iff.mp q0).1
  have sH : ∀ b o, H b = some o → b ≠ x → (∀ p, B0.md = some p → b ≠ p.1) → ¬ IsTbl o → upd H1 x (.ins C dx (fs ++ [(f, y)])) b = some o := fun b o e n1 n2 t => by
    rw [upd_ne n1]
    exact l2.kept b o e n2 t
  refine g.sim B0 x dx (upd F2 x (.ins C dx (fs ++ [(f, y)]))) _ σ _ (fs ++ [(f, y)]) (ns ++ [f]) (ds ++ [vl ρ1 r]) fin E rfl hx ⟨⟨hn2, ?_⟩, ?_, v0, upd_same, by rw [List.map_append, nm]; rfl, ra, noOA_app fo (by simp [noOA, q1]), okE_set q2, ?_, f0⟩ p k
  · refine ⟨by rw [List.length_set]; exact l2.len, ⟨sb2, nt2, tb2⟩, Same.refl _, fun b hb => .inl hb, fun b o e _ _ => e, fun p e => ⟨(hh p e).1, (hh p e).2, (hh p e).1.ex1.elim fun u hu => someO hu.1 hu.2⟩, fun i o e => ?_, fun i j o o' v e1 e2 w1 => ?_⟩
    · by_cases hi : i = 0
      · subst hi
        rw [List.getElem?_set_self len0] at e
        cases e
        exact ⟨.ref x, v0, .obj upd_same (by rw [List.map_append, nm]; rfl) ra⟩
      · rw [List.getElem?_set_ne (Ne.symm hi)] at e
        obtain ⟨d, rfl, nd⟩ := okE_at q2 hi e
        obtain ⟨v, ev, hv⟩ := l2.var i _ e
        exact ⟨v, ev, Rv.offO offF _ _ nd hv⟩
    · exfalso
      by_cases hi : i = 0
      · subst hi
        rw [List.getElem?_set_self len0] at e1
        cases e1
        cases w1
      · rw [List.getElem?_set_ne (Ne.symm hi)] at e1
        obtain ⟨d, rfl, _⟩ := okE_at q2 hi e1
        cases w1
  · rw [List.getElem?_set_self len0]
  · obtain ⟨a1, a2, a3, a4, a5⟩ := aft
    refine ⟨fun b o e => ?_, ⟨sb2, nt2, tb2⟩, fun b hb => ?_, fun b o e n1 n2 t => sH b o (a4 b o e n1 n2 t) n1 n2 t, hh⟩
    · have := a1 b o e
      by_cases hb : b = x
      · subst hb
        rw [f0] at e
        cases e
      · rw [upd_ne hb]
        exact s2 _ _ (s1 _ _ this)
    · by_cases hbx : b = x
      · exact .inr (.inr hbx)
      · rw [upd_ne hbx] at hb
        rcases l2.new b hb with z | z
        · exact a3 b z
        · refine .inr (.inl fun o q => ?_)
          have z : NoO H b := z
          apply Classical.byContradiction
          intro nt
          by_cases hh2 : ∀ p, B0.md = some p → b ≠ p.1
          · exact nt (z o (a4 b o q hbx hh2 nt))
          · have : ∃ p, B0.md = some p ∧ b = p.1 := Classical.byContradiction fun w => hh2 fun p e1 e2 => w ⟨p, e1, e2⟩
            obtain ⟨p, e1, e2⟩ := this
            obtain ⟨u, hu, t⟩ := (a5 p e1).1.ex1
            rw [← e2] at hu
            exact z.ne hu t
/-! ### the plain statements ahead -/
def isClsE (x : Addr) (ρ : En) : Prop := ρ[0]? = some (some (.dat (.cls x)))
def noOwnE (ρ : En) : Prop := hasOwn ρ = false
structure DXP (X : Cx) (B : Bs) (K : PySem.W.Frag) (C x dx : Addr) (sts : List Stmt) (tS : TS) (t : Fin1 → En → Prop) : Prop where
  ps : PSs X sts tS
  sim : ∀ (F : Hp) (ρ : En) (σ : L2.St) (H : Hp) (fin : Fin1) (E : Ends), Rel B F ρ σ H → t fin ρ → FinK B x dx C fin E → tS E σ H
def noEnd (u : Fin1 → En → Prop) (fin : Fin1) : DST := fun _ ρ => u fin ρ
theorem dxp_cons {B : Bs} {x dx : Addr} {st : Stmt} {uS : TS} {u : DST} {t : Fin1 → En → Prop} (h : DS X B st uS u) (g : DXP X B K C x dx sts tS t) : DXP X B K C x dx (st :: sts) (tSeq uS tS) (fun fin => dSq u (fun _ => t fin) { nx := fun _ => False, rt := fun _ => False }) := by
  refine ⟨pss_cons h.ps g.ps, fun F ρ σ H fin E l w k => ?_⟩
  refine h.sim F ρ σ H { nx := t fin, rt := fun _ => False } { E with nx := tS E } l w ⟨fun F' ρ' σ' H' l' s q => g.sim F' ρ' σ' H' fin E l' q k, fun _ _ _ _ _ _ q => q.elim, fun _ _ _ _ _ _ q => q.elim, fun _ _ _ _ _ _ q => q.elim⟩
theorem noOwn_at' {ρ : En} (h : hasOwn ρ = false) {i : Nat} {o : OV} (e : ρ[i]? = some (some o)) : ∃ d, o = .dat d := by
  cases o with
  | dat d => exact ⟨d, rfl⟩
  | own ds =>
    have := hasOwn_of e rfl
    rw [h] at this
    cases this
  | dic ks ds =>
    have := hasOwn_of e rfl
    rw [h] at this
    cases this
theorem dxp_go {B : Bs} {x dx : Addr} (xb : XB B x dx C) (g : DXS X B.K C sts tS t) : DXP X B B.K C x dx sts tS (fun fin ρ => isClsE x ρ ∧ noOwnE ρ ∧ okE (ρ.set 0 (some (.dat (.obj C [] [])))) = true ∧ t [] [] fin (ρ.set 0 (some (.dat (.obj C [] []))))) := by
  refine ⟨g.ps, fun F ρ σ H fin E l ⟨w0, w1, w2, w⟩ k => ?_⟩
  have w0 : ρ[0]? = some (some (.dat (.cls x))) := w0
  have w1 : hasOwn ρ = false := w1
  obtain ⟨v, v0, rv⟩ := l.var 0 _ w0
  have ev : v = .ref x := by
    have rv : Rv B.K B.hd F v (.cls x) := rv
    cases rv
    rfl
  subst ev
  have fx : F x = none := by
    cases q : F x with
    | none => rfl
    | some o =>
      rcases l.new x (by rw [q]; simp) with z | z
      · exact absurd xb.f0 z
      · exact (z.ne xb.h0 fun ps z => (by cases z)).elim
  have hx : H x = some (.ins C dx []) := l.kept x _ xb.h0 xb.nh (fun ⟨_, z⟩ => (by cases z))
  have len0 : 0 < ρ.length := (List.getElem?_eq_some_iff.mp w0).1
  have s1 : Same F (upd F x (.ins C dx [])) := same_new fx
  have sub : Same (upd F x (.ins C dx [])) H := fun b o e => by
    by_cases hb : b = x
    · subst hb
      rw [upd_same] at e
      rw [← e]
      exact hx
    · rw [upd_ne hb] at e
      exact l.sub _ _ e
  have nt2 : ∀ b ps, upd F x (.ins C dx []) b ≠ some (.tbl ps) := fun b ps z => by
    by_cases hb : b = x
    · subst hb
      rw [upd_same] at z
      cases z
    · rw [upd_ne hb] at z
      exact l.sb.nt b ps z
  have hn : ∀ p, B.md = some p → Hnd H p.1 p.2 ∧ upd F x (.ins C dx []) p.1 = none := fun p e => by
    obtain ⟨h1, h2, _⟩ := l.hnd p e
    exact ⟨h1, by rw [upd_ne (Ne.symm (xb.nh p e))]; exact h2⟩
  have nx2 : ∀ b, upd F x (.ins C dx []) b ≠ none → b ≠ x → F b ≠ none := fun b hb n => by rwa [upd_ne n] at hb
  refine g.sim B x dx (upd F x (.ins C dx [])) _ σ H [] [] [] fin E rfl xb.nh ⟨⟨l.a0, ⟨by rw [List.length_set]; exact l.len, ⟨sub, nt2, l.sb.tb⟩, Same.refl _, fun b hb => .inl hb, fun b o e _ _ => e, fun p e => ⟨(hn p e).1, (hn p e).2, (hn p e).1.ex1.elim fun u hu => someO hu.1 hu.2⟩, fun i o e => ?_, fun i j o o' v e1 e2 a1 => ?_⟩⟩, ?_, v0, upd_same, rfl, .nil, rfl, w2, ⟨l.fro.trans s1, ⟨sub, nt2, l.sb.tb⟩, fun b hb => ?_, fun b o e _ n t => l.kept b o e n t, hn⟩, xb.f0⟩ w k
  · by_cases hi : i = 0
    · subst hi
      rw [List.getElem?_set_self len0] at e
      cases e
      exact ⟨.ref x, v0, .obj upd_same rfl .nil⟩
    · rw [List.getElem?_set_ne (Ne.symm hi)] at e
      obtain ⟨d, rfl⟩ := noOwn_at' w1 e
      obtain ⟨v, ev, hv⟩ := l.var i _ e
      exact ⟨v, ev, Rv.mono hv s1⟩
  · exfalso
    by_cases hi : i = 0
    · subst hi
      rw [List.getElem?_set_self len0] at e1
      cases e1
      cases a1
    · rw [List.getElem?_set_ne (Ne.symm hi)] at e1
      obtain ⟨d, rfl⟩ := noOwn_at' w1 e1
      cases a1
  · rw [List.getElem?_set_self len0]
  · by_cases hbx : b = x
    · exact .inr (.inr hbx)
    · rcases l.new b (nx2 b hb hbx) with z | z
      · exact .inl z
      · exact .inr (.inl z)
end
/-! ### the theorem about an __init__ -/
section
variable {P : Program} {w : World} {K : PySem.W.Frag} {mg : Str → Option Value} {base : Heap} {x qual : Str} {st : Stmt} {f C : Addr} {fd : FuncData} {N ps ns : List Str} {k : Nat} {W : DWI}
theorem okI (F : Fun K x qual st f fd) (S : FnScope N ps (defScope st)) (hlen : ∀ ds Q ex, W ds Q ex → ds.length + 1 = ps.length)
    (hb : ∀ (cdv : Value) (A : Around) (outer : List PySem.Env) (s : Shared) (H : Hp) (E : XK), Room k (A.deeper (PyProof.Rows.envOfC qual (defScope st) s.heap.objs.size f cdv)) → ∀ (md : Option (Addr × Addr)) (F0 : Hp) (a0 : ∀ p, md = some p → ¬ NoO H p.2) (ex : EXD), LX ⟨K, md, F0, H, a0⟩ ex E → ∀ (x dx : Addr), XB ⟨K, md, F0, H, a0⟩ x dx C →
      ∃ tS t, DXP (cxOf (L2.CX P w) P w K mg base N qual (defScope st) f cdv A outer s H E) ⟨K, md, F0, H, a0⟩ K C x dx (defBody st) tS t ∧ ∀ ds Q, W ds Q ex → t (fun ns' vs => ns' = ns ∧ Q vs) (startD N (.cls x :: ds))) : FnOk P w K mg base (L2.CX P w) (k + 1) f fd ps (spI K C ns W) := by
  refine F.okX S (fun vs H Q E h => ?_) fun cdv A outer s H vs Q E hr h => ?_
  · obtain ⟨B, x, dx, ws, args, P', ex, _, _, _, rfl, _, a, w, _⟩ := h
    rw [List.length_cons, a.len]
    exact hlen _ _ _ w
  · obtain ⟨⟨K', md, F0, H0, a0⟩, x, dx, ws, args, P', ex, rfl, rfl, ok, rfl, xb, a, w, hk, hl⟩ := h
    obtain ⟨tS, t, d, q⟩ := hb cdv A outer s H0 E hr md F0 a0 ex hl x dx xb
    exact ⟨tS, d.ps, d.sim F0 _ _ H0 _ _ (start_rel ok (.cons (.cls x) a)) (q args P' w) fun F' σ' H' fs ns' ds aft fx nm fv ⟨e, p⟩ => hk ds fs F' H' p aft fx (nm.trans e) fv⟩
end
end Z

set_option Elab.async false
set_option linter.all false
set_option maxRecDepth 100000
namespace Z
open PySem L2
variable [TabsP]
/-! ## [e for a in xs for b in ys], where no name holds an own list -/
section
variable {B : Bs} {F F' H H' : Hp} {ρ ρ' : En} {σ σ' : L2.St}
theorem swapE (r : Rel B F ρ σ H) (no : ∀ (i : Nat) (o : OV), ρ[i]? = some (some o) → o.isOwn = false) (r' : Rel B F' ρ' σ' H') (s : Same F F') : Rel B F' ρ σ H' := by
  refine ⟨r.len, r'.sb, r'.fro, r'.new, r'.kept, r'.hnd, fun i o e => ?_, r.ap⟩
  obtain ⟨v, ev, h⟩ := r.var i o e
  refine ⟨v, ev, ?_⟩
  cases o with
  | dat d => exact Rv.mono h s
  | own ds => cases no i _ e
  | dic ks ds => cases no i _ e
theorem noOwn_of {ρ : En} (h : hasOwn ρ = false) : ∀ (i : Nat) (o : OV), ρ[i]? = some (some o) → o.isOwn = false := fun i o e => by
  cases w : o.isOwn with
  | false => rfl
  | true => rw [hasOwn_of e w] at h; cases h
end
def dLc2L (g : DGT) (tt : DBT) (ti1 : DIT) (g1 : DGT) (tt1 : DBT) (te : DT) (vs1 : List Nat) (ρl : En) : List D → List D → (List D → Prop) → Prop
  | [], acc, P => P acc
  | d :: ds, acc, P => g d ρl fun ρ2 => tt ρ2 fun b ρ3 => if b = true then ti1 ρ3 fun xs ρ4 => hasOwn (wipeE ρ4 vs1) = false ∧ dLcL g1 tt1 te (wipeE ρ4 vs1) false xs acc fun acc' => dLc2L g tt ti1 g1 tt1 te vs1 ρl ds acc' P
      else dLc2L g tt ti1 g1 tt1 te vs1 ρl ds acc P
def dLc2 (vs vs1 : List Nat) (ti : DIT) (g : DGT) (tt : DBT) (ti1 : DIT) (g1 : DGT) (tt1 : DBT) (te : DT) : DT := fun ρ P => ti ρ fun ds ρ1 => noOwnAt ρ1 vs = true ∧ hasOwn (wipeE ρ1 vs) = false ∧ dLc2L g tt ti1 g1 tt1 te vs1 (wipeE ρ1 vs) ds [] fun out => P (.new out) ρ1
theorem lc2_sim {B : Bs} {wi wi1 : TI} {g g1 : TG} {tt tt1 : TT} {te : TE} {vs vs1 sl sl1 : List Nat} {ti ti1 : DIT} {dg dg1 : DGT} {dt dt1 : DBT} {de : DT} (hi : SimI B wi ti) (hsl : ∀ j ∈ sl, j ∈ vs) (hsl1 : ∀ j ∈ sl1, j ∈ vs1)
    (hg : ∀ (F0 H0 : Hp) (a0 : ∀ p, B.md = some p → ¬ NoO H0 p.2), ∀ (F : Hp) (ρ : En) (σ : L2.St) (H : Hp) (v : V) (d : D) (P : En → Prop) (Q : L2.St → Hp → Prop), Rel ⟨B.K, B.md, F0, H0, a0⟩ F ρ σ H → Rv B.K B.hd F v d → dg d ρ P → (∀ F' ρ' σ' H', Rel ⟨B.K, B.md, F0, H0, a0⟩ F' ρ' σ' H' → Same F F' → Off sl σ σ' → P ρ' → Q σ' H') → g v σ H Q)
    (ht : ∀ (F0 H0 : Hp) (a0 : ∀ p, B.md = some p → ¬ NoO H0 p.2), SimB ⟨B.K, B.md, F0, H0, a0⟩ tt dt)
    (hi1 : ∀ (F0 H0 : Hp) (a0 : ∀ p, B.md = some p → ¬ NoO H0 p.2), SimI ⟨B.K, B.md, F0, H0, a0⟩ wi1 ti1)
    (hg1 : ∀ (F0 H0 : Hp) (a0 : ∀ p, B.md = some p → ¬ NoO H0 p.2), ∀ (F : Hp) (ρ : En) (σ : L2.St) (H : Hp) (v : V) (d : D) (P : En → Prop) (Q : L2.St → Hp → Prop), Rel ⟨B.K, B.md, F0, H0, a0⟩ F ρ σ H → Rv B.K B.hd F v d → dg1 d ρ P → (∀ F' ρ' σ' H', Rel ⟨B.K, B.md, F0, H0, a0⟩ F' ρ' σ' H' → Same F F' → Off sl1 σ σ' → P ρ' → Q σ' H') → g1 v σ H Q)
    (ht1 : ∀ (F0 H0 : Hp) (a0 : ∀ p, B.md = some p → ¬ NoO H0 p.2), SimB ⟨B.K, B.md, F0, H0, a0⟩ tt1 dt1) (he : ∀ (F0 H0 : Hp) (a0 : ∀ p, B.md = some p → ¬ NoO H0 p.2), Sim ⟨B.K, B.md, F0, H0, a0⟩ te de) :
    Sim B (tLc2 wi g tt wi1 g1 tt1 te vs vs1) (dLc2 vs vs1 ti dg dt ti1 dg1 dt1 de) := by
  intro F ρ σ H P Q l w k
  refine hi F ρ σ H _ _ l w fun J ds F1 ρ1 H1 l1 s1 kp wd pp Dd nD => ?_
  obtain ⟨no, nown, p⟩ := pp
  obtain ⟨G, Y, wk, hG, hY⟩ := wd.ex
  have l0 := l1.wipe vs
  generalize eρ : wipeE ρ1 vs = ρ0 at l0 p nown
  obtain ⟨σ0, eσ⟩ : ∃ s, s = L2.wipe σ vs := ⟨_, rfl⟩
  rw [← eσ] at l0
  have no0 := noOwn_of nown
  have n0 : NoO B.H0 Dd := l0.no0 (.of nD)
  have ne0 : ∀ {ρ' : En} {σ' : L2.St}, (∀ (i : Nat) (o : OV), ρ'[i]? = some (some o) → o.isOwn = false) → ∀ (i : Nat) (o : OV), ρ'[i]? = some (some o) → o.isOwn = true → σ'[i]? ≠ some (some (V.ref Dd)) := fun h i o e w => by rw [h i o e] at w; cases w
  -- behind a part that ran from a base of its own
  have bk : ∀ {F3 H3 : Hp} {ρw : En} {σw : L2.St} {acc : List V} {a0 : ∀ p, B.md = some p → ¬ NoO H3 p.2} {F4 : Hp} {ρ4 : En} {σ4 : L2.St} {H4 : Hp}, Rel B F3 ρw σw H3 → (∀ (i : Nat) (o : OV), ρw[i]? = some (some o) → o.isOwn = false) → H3 Dd = some (.lst acc) → F3 Dd = none → Rel ⟨B.K, B.md, F3, H3, a0⟩ F4 ρ4 σ4 H4 →
      Rel B F4 ρw σw H4 ∧ Same F3 F4 ∧ H4 Dd = some (.lst acc) ∧ F4 Dd = none := fun {F3 H3 ρw σw acc a0 F4 ρ4 σ4 H4} rw_ nw e3 n3 r4 => by
    refine ⟨rw_.rebase nw r4, r4.fro, r4.kept Dd _ e3 (fun p ep z => (rw_.hnd p ep).2.2 (by rw [← z]; exact n0)) (fun ⟨_, z⟩ => (by cases z)), ?_⟩
    cases q : F4 Dd with
    | none => rfl
    | some u =>
      rcases r4.new Dd (by rw [q]; simp) with z | z
      · exact absurd n3 z
      · exact (NoO.ne (H := H3) z e3 fun ps z => (by cases z)).elim
  have bkW : ∀ {F2 F3 H2 H3 : Hp} {acc : List V}, H2 Dd = some (.lst acc) → F2 Dd = none → Same H2 H3 → (∀ b, F3 b ≠ none → F2 b ≠ none ∨ H2 b = none) → H3 Dd = some (.lst acc) ∧ F3 Dd = none := fun {F2 F3 H2 H3 acc} e2 n2 sH nw => by
    refine ⟨sH _ _ e2, ?_⟩
    cases q : F3 Dd with
    | none => rfl
    | some u =>
      rcases nw Dd (by rw [q]; simp) with z | z
      · exact absurd n2 z
      · rw [e2] at z; cases z
  refine ⟨fun i m H => m = ds.length - i ∧ i ≤ ds.length ∧ ∃ (F2 : Hp) (acc : List V) (accD : List D), Rel B F2 ρ0 σ0 H ∧ Same F1 F2 ∧ H Dd = some (.lst acc) ∧ RvA B.K B.hd F2 acc accD ∧ F2 Dd = none ∧ dLc2L dg dt ti1 dg1 dt1 de vs1 ρ0 (ds.drop i) accD fun out => P (.new out) ρ1,
    ⟨_, rfl, Nat.zero_le _, F1, [], [], l0.newO nD, Same.refl _, upd_same, .nil, l0.noF nD, p⟩, ?_⟩
  rintro i m H2 ⟨rfl, hi', F2, acc, accD, l2, s2, e2, a2, n2, p2⟩
  by_cases hlt : i < ds.length
  · refine .inr ⟨wk.goes i H2 hlt (hG F2 ρ0 σ0 H2 l2 s2), fun H => ∃ (F2 : Hp) (acc : List V) (accD : List D), Rel B F2 ρ0 σ0 H ∧ Same F1 F2 ∧ H Dd = some (.lst acc) ∧ RvA B.K B.hd F2 acc accD ∧ F2 Dd = none ∧ dLc2L dg dt ti1 dg1 dt1 de vs1 ρ0 (ds.drop (i + 1)) accD fun out => P (.new out) ρ1, fun H' q => ⟨_, by omega, rfl, hlt, q⟩, fun x H3 y => ?_⟩
    obtain ⟨d, F3, ed, l3, s3, rv3, sH, nw⟩ := hY i F2 ρ0 σ0 H2 x H3 l2 s2 hlt (wk.yields i H2 x H3 hlt (hG F2 ρ0 σ0 H2 l2 s2) y)
    obtain ⟨e3, n3⟩ := bkW e2 n2 sH nw
    rw [List.drop_eq_getElem_cons hlt, (List.getElem?_eq_some_iff.mp ed).2] at p2
    have lB := l3.base no0 l3.a0
    rw [← eσ]
    refine hg _ _ l3.a0 _ _ _ _ x d _ _ lB rv3 p2 fun F4 ρ4 σ4 H4 l4 s4 o4 p4 => ⟨by rw [eσ] at o4 ⊢; exact wipe_off o4 hsl, ?_⟩
    refine ht _ _ l3.a0 F4 ρ4 σ4 H4 _ _ l4 p4 fun b F5 ρ5 H5 l5 s5 k5 p5 => ?_
    cases b with
    | false =>
      obtain ⟨r6, s6, e6, n6⟩ := bk l3 no0 e3 n3 l5
      exact ⟨F5, acc, accD, r6, s2.trans (s3.trans s6), e6, a2.mono (s3.trans s6), n6, p5⟩
    | true =>
      rw [if_pos rfl] at p5 ⊢
      refine hi1 _ _ l3.a0 F5 ρ5 σ4 H5 _ _ l5 p5 fun J1 xs F6 ρ6 H6 l6 s6 k6 wd1 pp1 => ?_
      obtain ⟨nown1, p6⟩ := pp1
      obtain ⟨G1, Y1, wk1, hG1, hY1⟩ := wd1.ex
      obtain ⟨r6, sF6, e6, n6⟩ := bk l3 no0 e3 n3 l6
      have l6w := l6.wipe vs1
      generalize eρ1 : wipeE ρ6 vs1 = ρw at l6w p6 nown1
      obtain ⟨σw, eσ1⟩ : ∃ s, s = L2.wipe σ4 vs1 := ⟨_, rfl⟩
      rw [← eσ1] at l6w
      have now := noOwn_of nown1
      -- the inner names against the outer base
      have lw : Rel B F6 ρw σw H6 := by
        refine ⟨l6w.len, r6.sb, r6.fro, r6.new, r6.kept, r6.hnd, fun i o e => ?_, l6w.ap⟩
        obtain ⟨v, ev, h⟩ := l6w.var i o e
        refine ⟨v, ev, ?_⟩
        cases o with
        | dat d => exact h
        | own ds => cases now i _ e
        | dic ks ds => cases now i _ e
      have lw3 : Rel ⟨B.K, B.md, F3, H3, l3.a0⟩ F6 ρw σw H6 := l6w
      have un : ∀ {F2 H2 : Hp}, Rel B F2 ρw σw H2 → Same F6 F2 → (∀ b o, H3 b = some o → (∀ p, B.md = some p → b ≠ p.1) → b ≠ Dd → H2 b = some o) → True := fun _ _ _ => trivial
      refine ⟨fun j k H => k = xs.length - j ∧ j ≤ xs.length ∧ ∃ (F2 : Hp) (acc : List V) (accD : List D), Rel B F2 ρw σw H ∧ Same F6 F2 ∧ H Dd = some (.lst acc) ∧ RvA B.K B.hd F2 acc accD ∧ F2 Dd = none ∧ dLcL dg1 dt1 de ρw false (xs.drop j) accD fun acc' => dLc2L dg dt ti1 dg1 dt1 de vs1 ρ0 (ds.drop (i + 1)) acc' fun out => P (.new out) ρ1,
        ⟨_, rfl, Nat.zero_le _, F6, acc, accD, lw, Same.refl _, e6, a2.mono (s3.trans sF6), n6, p6⟩, ?_⟩
      rintro j kk H7 ⟨rfl, hj, F7, acc7, accD7, l7, s7, e7, a7, n7, p7⟩
      have loop1 : G1 H7 := hG1 F7 ρw σw H7 l7 s7
      by_cases hlt1 : j < xs.length
      · refine .inr ⟨wk1.goes j H7 hlt1 loop1, fun H => ∃ (F2 : Hp) (acc : List V) (accD : List D), Rel B F2 ρw σw H ∧ Same F6 F2 ∧ H Dd = some (.lst acc) ∧ RvA B.K B.hd F2 acc accD ∧ F2 Dd = none ∧ dLcL dg1 dt1 de ρw false (xs.drop (j + 1)) accD fun acc' => dLc2L dg dt ti1 dg1 dt1 de vs1 ρ0 (ds.drop (i + 1)) acc' fun out => P (.new out) ρ1, fun H' q => ⟨_, by omega, rfl, hlt1, q⟩, fun x1 H8 y1 => ?_⟩
        obtain ⟨d1, F8, ed1, l8, s8, rv8, sH8, nw8⟩ := hY1 j F7 ρw σw H7 x1 H8 l7 s7 hlt1 (wk1.yields j H7 x1 H8 hlt1 loop1 y1)
        obtain ⟨e8, n8⟩ := bkW e7 n7 sH8 nw8
        rw [List.drop_eq_getElem_cons hlt1, (List.getElem?_eq_some_iff.mp ed1).2] at p7
        have lB8 := l8.base now l8.a0
        rw [← eσ1]
        refine hg1 _ _ l8.a0 _ _ _ _ x1 d1 _ _ lB8 rv8 p7 fun F9 ρ9 σ9 H9 l9 s9 o9 p9 => ⟨by rw [eσ1] at o9 ⊢; exact wipe_off o9 hsl1, ?_⟩
        refine ht1 _ _ l8.a0 F9 ρ9 σ9 H9 _ _ l9 p9 fun b F10 ρ10 H10 l10 s10 k10 p10 => ?_
        cases b with
        | false =>
          obtain ⟨r11, s11, e11, n11⟩ := bk l8 now e8 n8 l10
          exact ⟨F10, acc7, accD7, r11, s7.trans (s8.trans s11), e11, a7.mono (s8.trans s11), n11, p10⟩
        | true =>
          rw [if_pos rfl] at p10
          rw [if_pos rfl]
          refine (he _ _ l8.a0).frz F10 ρ10 σ9 H10 _ _ l10 p10 fun r v F11 ρ11 H11 l11 s11 k11 rv11 ⟨q1, q2, q3, q4⟩ => ?_
          obtain ⟨r12, s12, e12, n12⟩ := bk l8 now e8 n8 l11
          have rv12 : Rv B.K B.hd F11 v (vl ρ11 r) := by
            cases r with
            | dat d => exact rv11
            | new ds => exact rv11
            | var i => cases q2
          refine ⟨acc7, e12, by rw [a7.len]; exact q1, _, acc7 ++ [v], _, r12.upd n12 n0 (ne0 now) (kt_lst e12), s7.trans (s8.trans s12), upd_same, (a7.mono (s8.trans s12)).app (.cons rv12 .nil), n12, q4⟩
      · obtain rfl : j = xs.length := by omega
        rw [List.drop_length] at p7
        exact .inl ⟨wk1.stops H7 loop1, F7, acc7, accD7, swapE l3 no0 l7 (sF6.trans s7), s2.trans (s3.trans (sF6.trans s7)), e7, a7, n7, p7⟩
  · obtain rfl : i = ds.length := by omega
    rw [List.drop_length] at p2
    refine .inl ⟨wk.stops H2 (hG F2 ρ0 σ0 H2 l2 s2), k (.new accD) _ F2 ρ1 H2 (l1.rewipe no s2 (by subst eρ eσ; exact l2.unwipe)) (s1.trans s2) kp ⟨Dd, acc, rfl, e2, a2, n2, n0, fun i o e w z => ?_⟩ p2⟩
    have hi : i ∉ vs := fun hi => by rw [noOwn_at no hi e] at w; cases w
    rw [no0 i o (by rw [← eρ, wipeE_out hi]; exact e)] at w
    cases w
section
variable {X : Cx} {B : Bs} {tg iter tg1 iter1 elt : Expr} {ifs ifs1 : List Expr} {scope : Scope} {own : List (Str × Nat)} {vs1 : List Nat} {pos : Pos} {wi wi1 : TI} {g g1 : TG} {tt tt1 : TT} {te' : TE} {sl sl1 : List Nat} {ti ti1 : DIT} {dg dg1 : DGT} {dt dt1 : DBT} {de : DT}
theorem de_lc2 (hc : X.calm = true) (hN : X.N.Nodup) (hi : DI X B tg iter wi ti) (ok : BlkOk X.N X.env.scope scope own) (hv : ∀ i ∈ vs1, i ∈ own.map (·.2))
    (hg : ∀ (F0 H0 : Hp) (a0 : ∀ p, B.md = some p → ¬ NoO H0 p.2) (s : Shared) (H : Hp) (C : Addr) (cl : List (Str × Addr)) (fp : List Addr), DG (X.blk s H scope (compEnvC scope cl C X.env) fp) ⟨B.K, B.md, F0, H0, a0⟩ tg sl g dg)
    (ht : ∀ (F0 H0 : Hp) (a0 : ∀ p, B.md = some p → ¬ NoO H0 p.2) (s : Shared) (H : Hp) (C : Addr) (cl : List (Str × Addr)) (fp : List Addr), DPs (X.blk s H scope (compEnvC scope cl C X.env) fp) ⟨B.K, B.md, F0, H0, a0⟩ ifs tt dt)
    (hi1 : ∀ (F0 H0 : Hp) (a0 : ∀ p, B.md = some p → ¬ NoO H0 p.2) (s : Shared) (H : Hp) (C : Addr) (cl : List (Str × Addr)) (fp : List Addr), DI (X.blk s H scope (compEnvC scope cl C X.env) fp) ⟨B.K, B.md, F0, H0, a0⟩ tg1 iter1 wi1 ti1)
    (hg1 : ∀ (F0 H0 : Hp) (a0 : ∀ p, B.md = some p → ¬ NoO H0 p.2) (s : Shared) (H : Hp) (C : Addr) (cl : List (Str × Addr)) (fp : List Addr), DG (X.blk s H scope (compEnvC scope cl C X.env) fp) ⟨B.K, B.md, F0, H0, a0⟩ tg1 sl1 g1 dg1)
    (ht1 : ∀ (F0 H0 : Hp) (a0 : ∀ p, B.md = some p → ¬ NoO H0 p.2) (s : Shared) (H : Hp) (C : Addr) (cl : List (Str × Addr)) (fp : List Addr), DPs (X.blk s H scope (compEnvC scope cl C X.env) fp) ⟨B.K, B.md, F0, H0, a0⟩ ifs1 tt1 dt1)
    (he : ∀ (F0 H0 : Hp) (a0 : ∀ p, B.md = some p → ¬ NoO H0 p.2) (s : Shared) (H : Hp) (C : Addr) (cl : List (Str × Addr)) (fp : List Addr), DE (X.blk s H scope (compEnvC scope cl C X.env) fp) ⟨B.K, B.md, F0, H0, a0⟩ elt te' de)
    (hsl : ∀ j ∈ sl, j ∈ own.map (·.2)) (hsl1 : ∀ j ∈ sl1, j ∈ vs1) (s0 : Shared) (hs : ∀ x, foldedSetIterable iter X.env x = pure x := by intro _; rfl) (hs1 : ∀ env x, foldedSetIterable iter1 env x = pure x := by intro _ _; rfl) :
    DE X B (.ListComp elt [⟨tg, iter, ifs, 0⟩, ⟨tg1, iter1, ifs1, 0⟩] scope pos) (tLc2 wi g tt wi1 g1 tt1 te' (own.map (·.2)) vs1) (dLc2 (own.map (·.2)) vs1 ti dg dt ti1 dg1 dt1 de) := by
  refine ⟨pe_lc2 hc hN hi.pi ok hv (fun s H C cl fp => ?_) (fun s H C cl fp => ?_) (fun s H C cl fp => ?_) (fun s H C cl fp => ?_) (fun s H C cl fp => ?_) (fun s H C cl fp => ?_) hs hs1,
    lc2_sim hi.sim hsl hsl1 (fun F0 H0 a0 => (hg F0 H0 a0 s0 H0 0 [] []).sim) (fun F0 H0 a0 => (ht F0 H0 a0 s0 H0 0 [] []).sim) (fun F0 H0 a0 => (hi1 F0 H0 a0 s0 H0 0 [] []).sim) (fun F0 H0 a0 => (hg1 F0 H0 a0 s0 H0 0 [] []).sim) (fun F0 H0 a0 => (ht1 F0 H0 a0 s0 H0 0 [] []).sim) (fun F0 H0 a0 => (he F0 H0 a0 s0 H0 0 [] []).sim)⟩
  · exact (hg B.F0 B.H0 B.a0 s H C cl fp).pg
  · exact (ht B.F0 B.H0 B.a0 s H C cl fp).pts
  · exact (hi1 B.F0 B.H0 B.a0 s H C cl fp).pi
  · exact (hg1 B.F0 B.H0 B.a0 s H C cl fp).pg
  · exact (ht1 B.F0 B.H0 B.a0 s H C cl fp).pts
  · exact (he B.F0 B.H0 B.a0 s H C cl fp).pe
/-- x = [.. for .. for ..] -/
theorem ds_lc2F {i : Nat} {y : Str} {py spos : Pos} (hc : X.calm = true) (hN : X.N.Nodup) (hy : X.N[i]? = some y) (hyl : X.env.scope.names.lookup y = some .local)
    (hsw : swapsWith (.ListComp elt [⟨tg, iter, ifs, 0⟩, ⟨tg1, iter1, ifs1, 0⟩] scope pos) (some (.Name y py)) spos.line X.env = pure true) (hi : DI X B tg iter wi ti) (ok : BlkOk X.N X.env.scope scope own) (hv : ∀ i ∈ vs1, i ∈ own.map (·.2))
    (hg : ∀ (F0 H0 : Hp) (a0 : ∀ p, B.md = some p → ¬ NoO H0 p.2) (s : Shared) (H : Hp) (C : Addr) (cl : List (Str × Addr)) (fp : List Addr), DG (X.blk s H scope (compEnvC scope cl C X.env) fp) ⟨B.K, B.md, F0, H0, a0⟩ tg sl g dg)
    (ht : ∀ (F0 H0 : Hp) (a0 : ∀ p, B.md = some p → ¬ NoO H0 p.2) (s : Shared) (H : Hp) (C : Addr) (cl : List (Str × Addr)) (fp : List Addr), DPs (X.blk s H scope (compEnvC scope cl C X.env) fp) ⟨B.K, B.md, F0, H0, a0⟩ ifs tt dt)
    (hi1 : ∀ (F0 H0 : Hp) (a0 : ∀ p, B.md = some p → ¬ NoO H0 p.2) (s : Shared) (H : Hp) (C : Addr) (cl : List (Str × Addr)) (fp : List Addr), DI (X.blk s H scope (compEnvC scope cl C X.env) fp) ⟨B.K, B.md, F0, H0, a0⟩ tg1 iter1 wi1 ti1)
    (hg1 : ∀ (F0 H0 : Hp) (a0 : ∀ p, B.md = some p → ¬ NoO H0 p.2) (s : Shared) (H : Hp) (C : Addr) (cl : List (Str × Addr)) (fp : List Addr), DG (X.blk s H scope (compEnvC scope cl C X.env) fp) ⟨B.K, B.md, F0, H0, a0⟩ tg1 sl1 g1 dg1)
    (ht1 : ∀ (F0 H0 : Hp) (a0 : ∀ p, B.md = some p → ¬ NoO H0 p.2) (s : Shared) (H : Hp) (C : Addr) (cl : List (Str × Addr)) (fp : List Addr), DPs (X.blk s H scope (compEnvC scope cl C X.env) fp) ⟨B.K, B.md, F0, H0, a0⟩ ifs1 tt1 dt1)
    (he : ∀ (F0 H0 : Hp) (a0 : ∀ p, B.md = some p → ¬ NoO H0 p.2) (s : Shared) (H : Hp) (C : Addr) (cl : List (Str × Addr)) (fp : List Addr), DE (X.blk s H scope (compEnvC scope cl C X.env) fp) ⟨B.K, B.md, F0, H0, a0⟩ elt te' de)
    (hsl : ∀ j ∈ sl, j ∈ own.map (·.2)) (hsl1 : ∀ j ∈ sl1, j ∈ vs1) (s0 : Shared) (hs : ∀ x, foldedSetIterable iter X.env x = pure x := by intro _; rfl) (hs1 : ∀ env x, foldedSetIterable iter1 env x = pure x := by intro _ _; rfl) :
    DS X B (.Assign [.Name y py] (.ListComp elt [⟨tg, iter, ifs, 0⟩, ⟨tg1, iter1, ifs1, 0⟩] scope pos) spos) (tAsg (tLc2 wi g tt wi1 g1 tt1 te' (own.map (·.2)) vs1) (gName i)) (dSetF i (dLc2 (own.map (·.2)) vs1 ti dg dt ti1 dg1 dt1 de)) := by
  refine ⟨ps_setLc2 hc hN hy hyl hsw hi.pi ok hv (fun s H C cl fp => ?_) (fun s H C cl fp => ?_) (fun s H C cl fp => ?_) (fun s H C cl fp => ?_) (fun s H C cl fp => ?_) (fun s H C cl fp => ?_) hs hs1,
    sim_setF (lc2_sim hi.sim hsl hsl1 (fun F0 H0 a0 => (hg F0 H0 a0 s0 H0 0 [] []).sim) (fun F0 H0 a0 => (ht F0 H0 a0 s0 H0 0 [] []).sim) (fun F0 H0 a0 => (hi1 F0 H0 a0 s0 H0 0 [] []).sim) (fun F0 H0 a0 => (hg1 F0 H0 a0 s0 H0 0 [] []).sim) (fun F0 H0 a0 => (ht1 F0 H0 a0 s0 H0 0 [] []).sim) (fun F0 H0 a0 => (he F0 H0 a0 s0 H0 0 [] []).sim))⟩
  · exact (hg B.F0 B.H0 B.a0 s H C cl fp).pg
  · exact (ht B.F0 B.H0 B.a0 s H C cl fp).pts
  · exact (hi1 B.F0 B.H0 B.a0 s H C cl fp).pi
  · exact (hg1 B.F0 B.H0 B.a0 s H C cl fp).pg
  · exact (ht1 B.F0 B.H0 B.a0 s H C cl fp).pts
  · exact (he B.F0 B.H0 B.a0 s H C cl fp).pe
end
/-- reading: one outer item whose target is a name, no test, the inner items all without a test -/
theorem dLc2L_nil {g : DGT} {tt : DBT} {ti1 : DIT} {g1 : DGT} {tt1 : DBT} {te : DT} {vs1 : List Nat} {ρl : En} {acc : List D} {P : List D → Prop} (h : P acc) : dLc2L g tt ti1 g1 tt1 te vs1 ρl [] acc P := h
/-- by an invariant: `f` says what each outer item gives -/
theorem dLc2L_ind {g : DGT} {tt : DBT} {ti1 : DIT} {g1 : DGT} {tt1 : DBT} {te : DT} {vs1 : List Nat} {ρl : En} {P : List D → Prop} (f : D → List D) :
    ∀ (ds acc : List D), (∀ d ∈ ds, ∀ (acc : List D) (R : List D → Prop), R (acc ++ f d) → g d ρl fun ρ2 => tt ρ2 fun b ρ3 => if b = true then ti1 ρ3 fun xs ρ4 => hasOwn (wipeE ρ4 vs1) = false ∧ dLcL g1 tt1 te (wipeE ρ4 vs1) false xs acc R else R acc) →
      P (acc ++ ds.flatMap f) → dLc2L g tt ti1 g1 tt1 te vs1 ρl ds acc P
  | [], acc, _, h => by
    show P acc
    simpa using h
  | d :: ds, acc, hd, h => by
    unfold dLc2L
    exact hd d (by simp) acc _ (dLc2L_ind f ds (acc ++ f d) (fun x hx => hd x (by simp [hx])) (by simpa [List.append_assoc] using h))
end Z

set_option Elab.async false
set_option linter.all false
set_option maxRecDepth 100000
namespace Z
open PySem L2
variable [TabsP]
/-! ## numbers from 0: ranges, comprehensions, loops -/
def nD (i : Nat) : D := .int (i : Int)
def nsD (ns : List Nat) : List D := ns.map nD
theorem rgD_n (n : Nat) : rgD 0 (n : Int) = nsD (List.range n) := by
  unfold rgD nsD
  rw [show ((n : Int) - 0).toNat = n by omega]
  refine List.map_congr_left fun i _ => ?_
  simp [nD]
theorem rgD_an (a n : Nat) : rgD (a : Int) (n : Int) = nsD ((List.range (n - a)).map (a + ·)) := by
  unfold rgD nsD
  rw [show ((n : Int) - (a : Int)).toNat = n - a by omega, List.map_map]
  refine List.map_congr_left fun i _ => ?_
  simp [nD]
theorem nsD_len (ns : List Nat) : (nsD ns).length = ns.length := List.length_map _
theorem flat_ns (ns : List Nat) : ∀ d ∈ nsD ns, ∃ i : Int, d = .int i := fun d hd => by
  obtain ⟨i, _, rfl⟩ := List.mem_map.mp hd
  exact ⟨_, rfl⟩
theorem noLA_ns : ∀ ns : List Nat, noLA (nsD ns) = true
  | [] => rfl
  | n :: ns => by
    show (noL (nD n) && noLA (nsD ns)) = true
    rw [noLA_ns ns]
    rfl
theorem noOA_ns : ∀ ns : List Nat, noOA (nsD ns) = true
  | [] => rfl
  | n :: ns => by
    show (noO (nD n) && noOA (nsD ns)) = true
    rw [noOA_ns ns]
    rfl
theorem dLc_ns {g : DGT} {tt : DBT} {te : DT} {ρl : En} {ho : Bool} {P : List D → Prop} {ns : List Nat} (p : Nat → Bool) (f : Nat → D) (hz : ns.length ≤ 2 ^ 24) (hn : ∀ i ∈ ns, ho = true → noL (f i) = true)
    (h1 : ∀ i ∈ ns, ∀ (T : R → En → Prop) (C0 : Prop), (p i = true → ∀ r ρ4, r.isVar = false → vl ρ4 r = f i → T r ρ4) → (p i = false → C0) → g (.int (i : Nat)) ρl fun ρ2 => tt ρ2 fun b ρ3 => if b = true then te ρ3 T else C0) (q : P ((ns.filter p).map f)) : dLcL g tt te ρl ho (nsD ns) [] P := by
  have e : nsD ns = (ns.map fun i : Nat => (i : Int)).map D.int := by
    unfold nsD
    rw [List.map_map]
    rfl
  rw [e]
  refine dLc_ints (fun i => p i.toNat) (fun i => f i.toNat) (by rw [List.length_map]; exact hz) (fun i hi => ?_) (fun i hi T C0 a b => ?_) ?_
  · obtain ⟨m, hm, rfl⟩ := List.mem_map.mp hi
    exact hn m hm
  · obtain ⟨m, hm, rfl⟩ := List.mem_map.mp hi
    exact h1 m hm T C0 a b
  · have e2 : (((ns.map fun i : Nat => (i : Int)).filter fun i => p i.toNat).map fun i => f i.toNat) = (ns.filter p).map f := by
      rw [List.filter_map, List.map_map]
      rfl
    rw [e2]
    exact q
theorem dFor_ns {g : DGT} {tb : DST} {E : DEnds} {ns : List Nat} (I : En → Prop) (h0 : ∀ ρ, I ρ → E.nx ρ)
    (h1 : ∀ i ∈ ns, ∀ (C : En → Prop) ρ, I ρ → (∀ ρ', I ρ' → C ρ') → g (.int (i : Nat)) ρ fun ρ1 => tb { E with nx := C, ct := C, bk := E.nx } ρ1) {ρ : En} (h : I ρ) : dForL g tb E (nsD ns) ρ := by
  refine dFor_ind (fun ds ρ => ∃ ms : List Nat, ds = nsD ms ∧ (∀ m ∈ ms, m ∈ ns) ∧ I ρ) ?_ ?_ _ _ ⟨ns, rfl, fun _ h => h, h⟩
  · rintro ρ ⟨_, _, _, i⟩
    exact h0 ρ i
  · rintro d ds C ρ ⟨ms, e, hm, i⟩ hC
    cases ms with
    | nil => cases e
    | cons m ms =>
      cases e
      exact h1 m (hm m (by simp)) C ρ i fun ρ' h' => hC ρ' ⟨ms, rfl, fun x hx => hm x (by simp [hx]), h'⟩
/-! ### reading squares of words -/
def rowD (n : Nat) (f : Nat → Bool) : List D := (List.range n).map fun y => .bl (f y)
theorem rowD_len {n : Nat} {f : Nat → Bool} : (rowD n f).length = n := by unfold rowD; simp
theorem rowD_at {n y : Nat} {f : Nat → Bool} (h : y < n) : (rowD n f)[y]? = some (.bl (f y)) := by
  unfold rowD
  rw [List.getElem?_map, List.getElem?_range h]
  rfl
theorem atR {n y : Nat} {f : Nat → Bool} (h : y < n) : atI (rowD n f) (y : Int) = some (.bl (f y)) := L2.atI_nat (rowD_at h)
def rowsD (n : Nat) (M : Nat → Nat → Bool) : List D := (List.range n).map fun x => .lst (rowD n (M x))
theorem rowsD_len {n : Nat} {M : Nat → Nat → Bool} : (rowsD n M).length = n := by unfold rowsD; simp
theorem atRR {n x : Nat} {M : Nat → Nat → Bool} (h : x < n) : atI (rowsD n M) (x : Int) = some (.lst (rowD n (M x))) := by
  refine L2.atI_nat ?_
  unfold rowsD
  rw [List.getElem?_map, List.getElem?_range h]
  rfl
theorem r62 {n : Nat} (h : n ≤ 1000000) : R62 (n : Int) := by unfold R62; omega
theorem r62_0 : R62 0 := by unfold R62; omega
theorem r62_1 : R62 1 := by unfold R62; omega
/-- in a square, `high` is a next greater one of `low` -/
def covB (n : Nat) (M : Nat → Nat → Bool) (low high : Nat) : Bool := M low high && !(((List.range n).map fun mid => M low mid && M mid high).any id)
theorem flt_true {α : Type} (l : List α) : l.filter (fun _ => true) = l := List.filter_eq_self.mpr fun _ _ => rfl
/-! ### one setting of an object's making -/
theorem dxSet_of {K : PySem.W.Frag} {C : Addr} {f : Str} {te : DT} {u : DXT} {ns : List Str} {ds : List D} {fin : Fin1} {ρ : En} (d : D) (cl : Cls K C) (na : NoAttr K C f) (h : ∀ T : R → En → Prop, (∀ r, vl ρ r = d → mvE ρ r = ρ → T r ρ) → te ρ T)
    (h0 : ρ[0]? = some (some (.dat (.obj C ns ds)))) (hd : noO d = true) (ho : okE ρ = true) (hf : f ∉ ns) (hl : ns.length < 1000) (w : u (ns ++ [f]) (ds ++ [d]) fin (ρ.set 0 (some (.dat (.obj C (ns ++ [f]) (ds ++ [d])))))) : dxSet K C f te u ns ds fin ρ := by
  refine ⟨cl, na, h _ fun r e1 e2 => ?_⟩
  rw [e1, e2]
  exact ⟨h0, hd, ho, hf, hl, w⟩
theorem noOA_map {α : Type} {f : α → D} (h : ∀ a, noO (f a) = true) : ∀ l : List α, noOA (l.map f) = true
  | [] => rfl
  | a :: l => by
    show (noO (f a) && noOA (l.map f)) = true
    rw [h a, noOA_map h l]
    rfl
/-! ### a list that has begun; two fors -/
theorem dLc_nsA {g : DGT} {tt : DBT} {te : DT} {ρl : En} {ho : Bool} {P : List D → Prop} (p : Nat → Bool) (f : Nat → D) :
    ∀ (ns : List Nat) (acc : List D), acc.length + ns.length ≤ 2 ^ 24 → (∀ i ∈ ns, ho = true → noL (f i) = true) →
      (∀ i ∈ ns, ∀ (T : R → En → Prop) (C0 : Prop), (p i = true → ∀ r ρ4, r.isVar = false → vl ρ4 r = f i → T r ρ4) → (p i = false → C0) → g (.int (i : Nat)) ρl fun ρ2 => tt ρ2 fun b ρ3 => if b = true then te ρ3 T else C0) →
      P (acc ++ (ns.filter p).map f) → dLcL g tt te ρl ho (nsD ns) acc P
  | [], acc, _, _, _, q => by
    show P acc
    simpa using q
  | i :: ns, acc, hz, hn, h1, q => by
    have ih := fun acc' hz' q' => dLc_nsA (g := g) (tt := tt) (te := te) (ρl := ρl) (ho := ho) (P := P) p f ns acc' hz' (fun j hj => hn j (by simp [hj])) (fun j hj => h1 j (by simp [hj])) q'
    rw [List.length_cons] at hz
    refine h1 i (by simp) _ _ (fun e r ρ4 er ev => ?_) (fun e => ?_)
    · rw [List.filter_cons, if_pos e, List.map_cons] at q
      refine ⟨?_, er, fun z => by rw [ev]; exact hn i (by simp) z, ?_⟩
      · show acc.length < 2 ^ 24
        omega
      · rw [ev]
        exact ih _ (by rw [List.length_append, List.length_singleton]; omega) (by simpa [List.append_assoc] using q)
    · rw [List.filter_cons, if_neg (by rw [e]; simp)] at q
      exact ih _ (by omega) q
theorem dLc2L_ns {g : DGT} {tt : DBT} {ti1 : DIT} {g1 : DGT} {tt1 : DBT} {te : DT} {vs1 : List Nat} {ρl : En} {P : List D → Prop} {m : Nat} (f : Nat → List D) :
    ∀ (ns : List Nat) (acc : List D), acc.length + (ns.flatMap f).length ≤ m → (∀ i ∈ ns, ∀ (acc : List D) (R : List D → Prop), acc.length + (f i).length ≤ m → R (acc ++ f i) → g (.int (i : Nat)) ρl fun ρ2 => tt ρ2 fun b ρ3 => if b = true then ti1 ρ3 fun xs ρ4 => hasOwn (wipeE ρ4 vs1) = false ∧ dLcL g1 tt1 te (wipeE ρ4 vs1) false xs acc R else R acc) →
      P (acc ++ ns.flatMap f) → dLc2L g tt ti1 g1 tt1 te vs1 ρl (nsD ns) acc P
  | [], acc, _, _, h => by
    show P acc
    simpa using h
  | i :: ns, acc, hz, hd, h => by
    rw [List.flatMap_cons, List.length_append] at hz
    exact hd i (by simp) acc _ (by omega) (dLc2L_ns f ns (acc ++ f i) (by rw [List.length_append]; omega) (fun x hx => hd x (by simp [hx])) (by simpa [List.append_assoc] using h))
theorem tru_st (ns : List Nat) : truD (.tup (nsD ns)) = some (!ns.isEmpty) := by cases ns <;> rfl
theorem nsD_I (ns : List Nat) : nsD ns = (ns.map fun i : Nat => (i : Int)).map D.int := by
  unfold nsD
  rw [List.map_map]
  rfl
theorem flatA_ns (ns : List Nat) : (nsD ns).all flatD = true := by rw [nsD_I]; exact flat_ints _
theorem in_ns (i : Nat) (ns : List Nat) : inD (.int (i : Int)) (nsD ns) = decide (i ∈ ns) := by
  rw [nsD_I, in_ints]
  exact decide_eq_decide.mpr ⟨fun h => by obtain ⟨j, hj, e⟩ := List.mem_map.mp h; rwa [← Int.ofNat.inj e], fun h => List.mem_map.mpr ⟨i, h, rfl⟩⟩
theorem eqN (i j : Nat) : eqD (.int (i : Int)) (.int (j : Int)) = (i == j) := by
  show ((i : Int) == (j : Int)) = (i == j)
  rw [Bool.eq_iff_iff, beq_iff_eq, beq_iff_eq]
  omega
/-! ### lists of any kind -/
theorem dLc_gA {α : Type} {g : DGT} {tt : DBT} {te : DT} {ρl : En} {ho : Bool} {P : List D → Prop} (v : α → D) (p : α → Bool) (f : α → D) :
    ∀ (l : List α) (acc : List D), acc.length + l.length ≤ 2 ^ 24 → (∀ a ∈ l, ho = true → noL (f a) = true) →
      (∀ a ∈ l, ∀ (T : R → En → Prop) (C0 : Prop), (p a = true → ∀ r ρ4, r.isVar = false → vl ρ4 r = f a → T r ρ4) → (p a = false → C0) → g (v a) ρl fun ρ2 => tt ρ2 fun b ρ3 => if b = true then te ρ3 T else C0) →
      P (acc ++ (l.filter p).map f) → dLcL g tt te ρl ho (l.map v) acc P
  | [], acc, _, _, _, q => by
    show P acc
    simpa using q
  | a :: l, acc, hz, hn, h1, q => by
    have ih := fun acc' hz' q' => dLc_gA (g := g) (tt := tt) (te := te) (ρl := ρl) (ho := ho) (P := P) v p f l acc' hz' (fun j hj => hn j (by simp [hj])) (fun j hj => h1 j (by simp [hj])) q'
    rw [List.length_cons] at hz
    refine h1 a (by simp) _ _ (fun e r ρ4 er ev => ?_) (fun e => ?_)
    · rw [List.filter_cons, if_pos e, List.map_cons] at q
      refine ⟨?_, er, fun z => by rw [ev]; exact hn a (by simp) z, ?_⟩
      · show acc.length < 2 ^ 24
        omega
      · rw [ev]
        exact ih _ (by rw [List.length_append, List.length_singleton]; omega) (by simpa [List.append_assoc] using q)
    · rw [List.filter_cons, if_neg (by rw [e]; simp)] at q
      exact ih _ (by omega) q
theorem dLc2L_g {α : Type} {g : DGT} {tt : DBT} {ti1 : DIT} {g1 : DGT} {tt1 : DBT} {te : DT} {vs1 : List Nat} {ρl : En} {P : List D → Prop} {m : Nat} (v : α → D) (f : α → List D) :
    ∀ (l : List α) (acc : List D), acc.length + (l.flatMap f).length ≤ m → (∀ a ∈ l, ∀ (acc : List D) (R : List D → Prop), acc.length + (f a).length ≤ m → R (acc ++ f a) → g (v a) ρl fun ρ2 => tt ρ2 fun b ρ3 => if b = true then ti1 ρ3 fun xs ρ4 => hasOwn (wipeE ρ4 vs1) = false ∧ dLcL g1 tt1 te (wipeE ρ4 vs1) false xs acc R else R acc) →
      P (acc ++ l.flatMap f) → dLc2L g tt ti1 g1 tt1 te vs1 ρl (l.map v) acc P
  | [], acc, _, _, h => by
    show P acc
    simpa using h
  | a :: l, acc, hz, hd, h => by
    rw [List.flatMap_cons, List.length_append] at hz
    exact hd a (by simp) acc _ (by omega) (dLc2L_g v f l (acc ++ f a) (by rw [List.length_append]; omega) (fun x hx => hd x (by simp [hx])) (by simpa [List.append_assoc] using h))
end Z

set_option Elab.async false
set_option linter.all false
set_option maxRecDepth 100000
namespace Z
open PySem L2
local macro_rules | `(tactic| walk_at "side") => `(tactic| first | omega | (unfold CMul; omega) | (unfold CDiv; omega) | (unfold CDivN; omega) | (unfold CPow; omega) | decide)
local macro_rules | `(tactic| walk_at "lst") => `(tactic| first | exact SqL.of (by assumption) | exact SqL.of upd_same | assumption | exact upd_same)
local macro_rules | `(tactic| walk_at "r1") => `(tactic| first | refine ⟨_, rfl, ?_⟩ | refine ⟨_, _, rfl, rfl, ?_⟩ | refine Or.inl ⟨_, rfl, ?_⟩ | refine And.intro rfl ?_ | refine ⟨_, _, _, _, rfl, rfl, by walk_at "lst", rfl, ?_⟩ | refine ⟨_, _, rfl, Or.inl (by walk_at "lst"), ?_⟩ | refine And.intro (by walk_at "side") ?_)
local macro_rules | `(tactic| walk_at "r") => `(tactic| repeat walk_at "r1")
def top (i : Nat) : Stmt := PySem.Challenge.pw_spentframes_k02_orders_by_a_rule.main.body.getD i (.Pass ⟨0, 0, 0, 0⟩)
abbrev s_mix : Stmt := top 30
abbrev s_draw : Stmt := top 31
section
variable {P : Program} {w : World} {K : PySem.W.Frag} {mg : Str → Option Value} {base : Heap}
theorem sc_mix : FnScope ["number", "turn", "once", "twice"] ["number", "turn"] (defScope s_mix) := ⟨rfl, rfl, rfl, by decide +kernel, rfl, by decide +kernel, by decide +kernel⟩
theorem mix_range {x M : Int} (h : 0 < M) : 0 ≤ x % M ∧ x % M < M := ⟨Int.emod_nonneg x (by omega), Int.emod_lt_of_pos x h⟩
theorem ok_mix {f : Addr} {fd : FuncData} (F : Fun K "_law_mix" "_law_mix" s_mix f fd) (T : Bl mg) : FnOk P w K mg base CX0 1 f fd ["number", "turn"] spMix := by
  refine F.ok sc_mix (fun vs H Q E h => ?_) (fun cdv A outer s H vs Q E hr h => ?_)
  · obtain ⟨a, b, rfl, _⟩ := h
    rfl
  · obtain ⟨a, b, rfl, ha, ha', hb, hb', k⟩ := h
    refine ⟨_,
      (pss_cons (ps_set (i := 2) sc_mix.nd rfl (Or.inl rfl) (pe_op op_mod (pe_callTy call_int1 (by rfl) T.n_int (by decide +kernel) (pa_cons (pe_op op_add (pe_op op_add (pe_op op_mul (pv 0) pe_int) (pe_op op_mul (pv 1) pe_int)) pe_int) pa_nil)) pe_int))
      (pss_cons (ps_set (i := 3) sc_mix.nd rfl (Or.inl rfl) (pe_op op_mod (pe_callTy call_int1 (by rfl) T.n_int (by decide +kernel) (pa_cons (pe_op op_add (pe_op op_add (pe_op op_mul (pv 2) (pv 2)) (pe_op op_mul (pv 1) pe_int)) (pe_op op_fdiv (pv 2) pe_int)) pa_nil)) pe_int))
      (pss_one (ps_ret (pe_op op_fdiv (pe_op op_mod (pe_callTy call_int1 (by rfl) T.n_int (by decide +kernel) (pa_cons (pe_op op_add (pe_op op_mul (pv 3) pe_int) (pv 2)) pa_nil)) pe_int) pe_int)))))
      , ?_⟩
    have m1 := mix_range (x := a * 69069 + b * 30011 + 7) (M := 2147483629) (by decide)
    walk_at "r"
    have m2 := mix_range (x := ((a * 69069 + b * 30011 + 7) % 2147483629 * ((a * 69069 + b * 30011 + 7) % 2147483629) + b * 40503 + (a * 69069 + b * 30011 + 7) % 2147483629 / 977) % 2147483587 * 48271 + (a * 69069 + b * 30011 + 7) % 2147483629) (M := 2147483563) (by decide)
    exact k _ (by omega)
theorem sc_draw : FnScope ["hand", "many", "cell", "rest"] ["hand", "many"] (defScope s_draw) := ⟨rfl, rfl, rfl, by decide +kernel, rfl, by decide +kernel, by decide +kernel⟩
theorem hnd_mk {H : Hp} {h a : Addr} {cells : List Int} {i : Nat} {r t : Int} {o : HO} (eo : o = .lst [.ref a, .int (i : Nat), .int r, .int t]) (e2 : H a = some (.lst (cells.map V.int))) (ne : a ≠ h) (hl : cells.length ≤ 63) (hc : ∀ c ∈ cells, 0 ≤ c) (hi : i ≤ cells.length) (hr : 0 ≤ r) (h0 : 0 ≤ t) (h1 : t < 2147483549) : Hnd (upd H h o) h a :=
  ⟨cells, i, r, t, by rw [eo]; exact upd_same, by rw [upd_ne ne]; exact e2, ne, hl, hc, hi, hr, h0, h1⟩
theorem ok_draw {f : Addr} {fd : FuncData} (F : Fun K "_law_draw" "_law_draw" s_draw f fd) (T : Bl mg) (c_law_mix : Cal P w K mg base CX0 "_law_mix" 1 spMix) : FnOk P w K mg base CX0 2 f fd ["hand", "many"] spDraw := by
  refine F.ok sc_draw (fun vs H Q E h => ?_) (fun cdv A outer s H vs Q E hr h => ?_)
  · obtain ⟨h, a, b, rfl, _⟩ := h
    rfl
  · obtain ⟨h, a, m, rfl, hn, h1, h2, k⟩ := h
    obtain ⟨cells, i, r, t, e1, e2, ne, hlen, hpos, hi, hr0, ht0, ht1⟩ := hn.ex
    have thr : ∃ o, H h = some o := ⟨_, e1⟩
    have fm : ∀ x : Int, 0 ≤ x.fmod m ∧ x.fmod m < m := fun x => ⟨Int.fmod_nonneg_of_pos x (by omega), Int.fmod_lt_of_pos x (by omega)⟩
    have fre : ∀ (b : Addr) (o : HO), H b = none → upd H h o b = none := fun b o z => by rw [upd_ne (ne_of_none e1 z).symm]; exact z
    refine ⟨_,
      (pss_cons (ps_if (PW.pt (pw_and (pt_cmpR op_eq (pe_ix (kix_list K) (pv 0) pe_int (fun _ _ => rfl)) pe_int (nomark _)) (pw_and1 (pt_cmpR op_lt (pe_ix (kix_list K) (pv 0) pe_int (fun _ _ => rfl)) (pe_callB (klen K) (by rfl) T.n_len PySem.boot_len (pa_cons (pe_ix (kix_list K) (pv 0) pe_int (fun _ _ => rfl)) pa_nil)) (nomark _)))))
        (pss_cons (ps_set (i := 2) sc_draw.nd rfl (Or.inl rfl) (pe_ix (kix_list K) (pe_ix (kix_list K) (pv 0) pe_int (fun _ _ => rfl)) (pe_ix (kix_list K) (pv 0) pe_int (fun _ _ => rfl)) (fun _ _ => rfl)))
        (pss_cons (ps_asg (pe_op op_add (pe_ix (kix_list K) (pv 0) pe_int (fun _ _ => rfl)) pe_int) (pg_sub (pv 0) pe_int set_list))
        (pss_cons (ps_if (pt_cmpR op_lt (pv 2) (pe_op op_pow pe_int pe_int) (nomark _))
          (pss_one (ps_ret (pe_op op_modN (pe_callTy call_int1 (by rfl) T.n_int (by decide +kernel) (pa_cons (pe_cal c_law_mix (hr.mono (by decide)) (by rfl) (pa_cons (pe_op op_mod (pe_callTy call_int1 (by rfl) T.n_int (by decide +kernel) (pa_cons (pv 2) pa_nil)) pe_int) (pa_cons (pe_ix (kix_list K) (pv 0) pe_int (fun _ _ => rfl)) pa_nil))) pa_nil)) (pv 1))))
          pss_nil)
        (pss_one (ps_asg (pv 2) (pg_sub (pv 0) pe_int set_list))))))
        pss_nil)
      (pss_cons (ps_if (pt_cmpR op_gt (pe_ix (kix_list K) (pv 0) pe_int (fun _ _ => rfl)) pe_int (nomark _))
        (pss_cons (ps_set (i := 3) sc_draw.nd rfl (Or.inl rfl) (pe_ix (kix_list K) (pv 0) pe_int (fun _ _ => rfl)))
        (pss_cons (ps_asg (pe_op op_fdivN (pv 3) (pv 1)) (pg_sub (pv 0) pe_int set_list))
        (pss_one (ps_ret (pe_op op_modN (pe_callTy call_int1 (by rfl) T.n_int (by decide +kernel) (pa_cons (pv 3) pa_nil)) (pv 1))))))
        pss_nil)
      (pss_cons (ps_asg (pe_op op_mod (pe_callTy call_int1 (by rfl) T.n_int (by decide +kernel) (pa_cons (pe_op op_add (pe_ix (kix_list K) (pv 0) pe_int (fun _ _ => rfl)) pe_int) pa_nil)) pe_int) (pg_sub (pv 0) pe_int set_list))
      (pss_one (ps_ret (pe_op op_modN (pe_callTy call_int1 (by rfl) T.n_int (by decide +kernel) (pa_cons (pe_cal c_law_mix (hr.mono (by decide)) (by rfl) (pa_cons (pe_ix (kix_list K) (pv 0) pe_int (fun _ _ => rfl)) (pa_cons (pe_ix (kix_list K) (pv 0) pe_int (fun _ _ => rfl)) pa_nil))) pa_nil)) (pv 1)))))))
      , ?_⟩
    walk_at "r"
    have tl : ∀ (X : Hp) (i' : Nat) (r' t' : Int), Keep h H X → (∀ b, H b = none → X b = none) → X a = some (.lst (cells.map V.int)) → i' ≤ cells.length → 0 ≤ r' → 0 ≤ t' → t' < 2147483549 →
        ∀ d, 0 ≤ d → d < m → Q (.int d) (upd X h (.lst [.ref a, .int (i' : Nat), .int r', .int t'])) := fun X i' r' t' kp fr f2 hi' hr' ht' ht'' d d0 d1 =>
      k d _ d0 d1 (kp.trans Keep.upd) (hnd_mk rfl f2 ne hlen hpos hi' hr' ht' ht'') (fun b z => by rw [upd_ne (ne_of_none e1 z).symm]; exact fr b z)
    refine iteB (fun c1 => ?_) (fun c1 => ?_)
    · have r0 : r = 0 := dec_i_t c1
      walk_at "r"
      refine iteB (fun c2 => ?_) (fun c2 => ?_)
      · have hil : i < cells.length := by
          have := of_decide_eq_true c2
          simp only [List.length_map] at this
          omega
        have hget : (cells.map V.int)[i]? = some (.int (cells[i])) := by simp [hil]
        walk_at "r"
        refine ⟨_, _, _, _, rfl, rfl, SqL.of e2, atI_nat hget, ?_⟩
        walk_at "r"
        have e3 : upd H h (.lst [.ref a, .int ((i : Int) + 1), .int r, .int t]) h = some (.lst [.ref a, .int ((i + 1 : Nat) : Int), .int r, .int t]) := upd_same
        have kp : Keep h H (upd H h (.lst [.ref a, .int ((i + 1 : Nat) : Int), .int r, .int t])) := Keep.upd
        have fr : ∀ b, H b = none → upd H h (.lst [.ref a, .int ((i + 1 : Nat) : Int), .int r, .int t]) b = none := fun b z => fre b _ z
        have f2 : upd H h (.lst [.ref a, .int ((i + 1 : Nat) : Int), .int r, .int t]) a = some (.lst (cells.map V.int)) := by rw [upd_ne ne]; exact e2
        have hc0 : 0 ≤ cells[i] := hpos _ (List.getElem_mem hil)
        refine iteB (fun c3 => ?_) (fun c3 => ?_)
        · walk_at "r"
          have q := mix_range (x := cells[i]) (M := 2147483629) (by decide)
          refine ⟨_, _, rfl, q.1, by omega, by omega, by omega, fun m' hm => ?_⟩
          walk_at "r"
          have u := tl H (i + 1) r t (Keep.refl _ _) (fun _ z => z) e2 (by omega) hr0 ht0 ht1 (m'.fmod m) (fm _).1 (fm _).2
          exact u
        · walk_at "r"
          have big : (1000000000000000000 : Int) ≤ cells[i] := by
            have z := of_decide_eq_false c3
            have z2 : (10 : Int) ^ Int.toNat 18 = 1000000000000000000 := by decide
            rw [z2] at z
            omega
          refine iteB (fun c4 => ?_) (fun c4 => ?_)
          · walk_at "r"
            refine tl _ (i + 1) (cells[i].fdiv m) t ?_ ?_ ?_ (by omega) (Int.fdiv_nonneg (by omega) (by omega)) ht0 ht1 _ (fm _).1 (fm _).2
            · exact Keep.upd.trans Keep.upd
            · intro b z
              rw [upd_ne (ne_of_none e1 z).symm, upd_ne (ne_of_none e1 z).symm]
              exact z
            · rw [upd_ne ne, upd_ne ne]
              exact e2
          · have z := of_decide_eq_false c4
            omega
      · walk_at "r"
        refine iteB (fun c4 => ?_) (fun c4 => ?_)
        · have z := of_decide_eq_true c4
          omega
        · walk_at "r"
          have q := mix_range (x := t + 1) (M := 2147483549) (by decide)
          refine ⟨_, _, rfl, q.1, by omega, by omega, by omega, fun m' hm => ?_⟩
          walk_at "r"
          exact tl H i r ((t + 1) % 2147483549) (Keep.refl _ _) (fun _ z => z) e2 hi hr0 q.1 q.2 _ (fm _).1 (fm _).2
    · have r0 : r ≠ 0 := dec_i_f c1
      walk_at "r"
      refine iteB (fun c4 => ?_) (fun c4 => ?_)
      · walk_at "r"
        exact tl H i (r.fdiv m) t (Keep.refl _ _) (fun _ z => z) e2 hi (Int.fdiv_nonneg hr0 (by omega)) ht0 ht1 _ (fm _).1 (fm _).2
      · have z := of_decide_eq_false c4
        omega
end
end Z


set_option Elab.async false
set_option linter.all false
set_option maxRecDepth 100000
namespace Z
open PySem L2
variable [TabsP]
local macro_rules | `(tactic| walk_at "side") => `(tactic| first | omega | (unfold CMul; omega) | (unfold CDiv; omega) | (unfold CDivN; omega) | (unfold CPow; omega) | decide)
local macro_rules | `(tactic| walk_at "lst") => `(tactic| first | exact SqL.of (by assumption) | exact SqL.of upd_same | assumption | exact upd_same)
local macro_rules | `(tactic| walk_at "r1") => `(tactic| first | refine ⟨_, rfl, ?_⟩ | refine ⟨_, _, rfl, rfl, ?_⟩ | refine Or.inl ⟨_, rfl, ?_⟩ | refine And.intro rfl ?_ | refine ⟨_, _, _, _, rfl, rfl, by walk_at "lst", rfl, ?_⟩ | refine ⟨_, _, rfl, Or.inl (by walk_at "lst"), ?_⟩ | refine And.intro (by walk_at "side") ?_)
local macro_rules | `(tactic| walk_at "r") => `(tactic| repeat walk_at "r1")
abbrev s_closed : Stmt := top 13
/-- a new square at p: nothing else is touched -/
structure NewM (H H' : Hp) (p : Addr) (n : Nat) (M : Nat → Nat → Bool) (rs : List Addr) : Prop where
  same : Same H H'
  mat : MatAt H' p n M rs
  free : H p = none
  frees : ∀ r ∈ rs, H r = none
def spClosed (K : PySem.W.Frag) : Sp := fun vs H Q _ => ∃ (n : Nat) (a : Addr) (ys : List V) (ds : List PyData), vs = [.int (n : Int), .ref a] ∧ 1 ≤ n ∧ n ≤ 24 ∧ (SqL K H a ys ∨ SqT K H a ys) ∧ DpAll K H ys ds ∧ (∀ d ∈ ds, couple d ((n : Int) - 1) = true) ∧
  ∀ p rs H', NewM H H' p n (closeM n (initM (ds.map prOf)) n) rs → Q (.ref p) H'
section
variable {P : Program} {w : World} {K : PySem.W.Frag} {mg : Str → Option Value} {base : Heap}
theorem sc_closed : FnScope ["n", "pairs", "less", "middle", "one", "other", "low", "_", "high"] ["n", "pairs"] (defScope s_closed) := ⟨rfl, rfl, rfl, by decide +kernel, rfl, by decide +kernel, by decide +kernel⟩
theorem ok_closed {f : Addr} {fd : FuncData} (F : Fun K "_closed" "_closed" s_closed f fd) (T : Bl mg) : FnOk P w K mg base CX0 1 f fd ["n", "pairs"] (spClosed K) := by
  refine F.ok sc_closed (fun vs H Q E h => ?_) (fun cdv A outer s H vs Q E hr h => ?_)
  · obtain ⟨n, a, ys, ds, rfl, _⟩ := h
    rfl
  · obtain ⟨n, a, ys, ds, rfl, h1, h24, hq, ha, hc, k⟩ := h
    refine ⟨_,
      (pss_cons (ps_set (i := 2) sc_closed.nd rfl (Or.inr rfl) (pe_lc (own := [("_", 7)]) (by rfl) sc_closed.nd (pi_range1 (by rfl) T.n_range (pa_cons (pv 0) pa_nil)) (blkOk_by (own := [("_", 7)]) (by show blkC ["n", "pairs", "less", "middle", "one", "other", "low", "_", "high"] (defScope s_closed) _ _ = true; decide +kernel)) (fun _ _ _ _ _ => (pg_name (i := 7) sc_closed.nd rfl (Or.inl rfl))) (fun _ _ _ _ _ => pts_nil) (fun _ _ _ _ _ => (pe_op op_rep (pe_lst (pa_cons pe_bl pa_nil)) (pv 0)))))
      (pss_cons (ps_for PassesOwn.never rfl (kpi_seqA K (pv 1)) (pg_unA rfl (pgs_cons (pg_name (i := 4) sc_closed.nd rfl (Or.inl rfl)) (pgs_cons (pg_name (i := 5) sc_closed.nd rfl (Or.inl rfl)) pgs_nil)))
        (pss_one (ps_asg pe_bl (pg_sub (pe_ix (kix_list K) (pv 2) (pv 4) (fun _ _ => rfl)) (pv 5) set_list))))
      (pss_cons (ps_for PassesOwn.never rfl (pi_range1 (by rfl) T.n_range (pa_cons (pv 0) pa_nil)) (pg_name (i := 3) sc_closed.nd rfl (Or.inr rfl))
        (pss_one (ps_for PassesOwn.never rfl (pi_range1 (by rfl) T.n_range (pa_cons (pv 0) pa_nil)) (pg_name (i := 6) sc_closed.nd rfl (Or.inr rfl))
          (pss_one (ps_if (pt_val (pe_ix (kix_list K) (pe_ix (kix_list K) (pv 2) (pv 6) (fun _ _ => rfl)) (pv 3) (fun _ _ => rfl)))
            (pss_one (ps_asg (pe_lc (own := [("high", 8)]) (by rfl) sc_closed.nd (pi_range1 (by rfl) T.n_range (pa_cons (pv 0) pa_nil)) (blkOk_by (own := [("high", 8)]) (by show blkC ["n", "pairs", "less", "middle", "one", "other", "low", "_", "high"] (defScope s_closed) _ _ = true; decide +kernel)) (fun _ _ _ _ _ => (pg_name (i := 8) sc_closed.nd rfl (Or.inl rfl))) (fun _ _ _ _ _ => pts_nil) (fun _ _ _ _ _ => (pe_or (pe_ix (kix_list K) (pe_ix (kix_list K) (pv 2) (pv 6) (fun _ _ => rfl)) (pv 8) (fun _ _ => rfl)) (pe_one (pe_ix (kix_list K) (pe_ix (kix_list K) (pv 2) (pv 3) (fun _ _ => rfl)) (pv 8) (fun _ _ => rfl)))))) (pg_sub (pv 2) (pv 6) set_list)))
            pss_nil)))))
      (pss_one (ps_ret (pv 2))))))
      , ?_⟩
    walk_at "r"
    intro D hD
    refine lc_range (lo := 0) (n := n) (fun i H' => ∃ rs : List Addr, Same H H' ∧ H' D = some (.lst (rs.map V.ref)) ∧ rs.length = i ∧ (∀ r ∈ rs, H' r = some (.lst (rowV n fun _ => false))) ∧ rs.Nodup ∧ D ∉ rs ∧ ∀ r ∈ rs, H r = none)
      ⟨[], same_new hD, upd_same, rfl, (fun _ h => nomatch h), .nil, (fun h => nomatch h), (fun _ h => nomatch h)⟩ ?_ ?_
    · rintro i H' hi ⟨rs, s1, eD, el, er, nd, nD, fr⟩
      refine ⟨rfl, ?_⟩
      refine ⟨(by show 1 ≤ sizeLine; decide), fun p hp => ⟨_, rfl, p, (n : Int), _, rfl, rfl, upd_same, by omega, by omega, ?_, fun q hq => ?_⟩⟩
      · show 1 * n ≤ sizeLine
        exact Nat.le_of_lt (small1000 (by omega))
      · have pD : p ≠ D := ne_of_none' eD hp
        have hq' : H' q = none := by
          cases e : H' q with
          | none => rfl
          | some o =>
            rw [upd_ne (ne_of_none e hp), e] at hq
            cases hq
        have qp : q ≠ p := fun z => by
          rw [z, upd_same] at hq
          cases hq
        have qD : q ≠ D := ne_of_none' eD hq'
        have eD2 : upd (upd H' p (.lst [.bl false])) q (.lst (List.replicate (n : Int).toNat [V.bl false]).flatten) D = some (.lst (rs.map V.ref)) := by
          rw [upd_ne qD.symm, upd_ne pD.symm]
          exact eD
        refine ⟨rs.map V.ref, eD2, small1000 (by rw [List.length_map]; omega), rs ++ [q], ?_, ?_, ?_, ?_, ?_, ?_, ?_⟩
        · exact same_mut ((s1.trans (same_new hp)).trans (same_new hq)) hD
        · rw [upd_same, List.map_append]
          rfl
        · rw [List.length_append, el]
          rfl
        · intro r hr
          rcases List.mem_append.mp hr with hr | hr
          · have e := er r hr
            have rD : r ≠ D := fun z => nD (z ▸ hr)
            rw [upd_ne rD, upd_ne (ne_of_none e hq'), upd_ne (ne_of_none e hp)]
            exact e
          · have e : r = q := by simpa using hr
            subst e
            rw [upd_ne qD, upd_same]
            exact congrArg (fun l => some (HO.lst l)) rowV_rep
        · refine List.nodup_append.mpr ⟨nd, by simp, fun a ha b hb => ?_⟩
          have e : b = q := by simpa using hb
          subst e
          exact ne_of_none (er a ha) hq'
        · intro hm
          rcases List.mem_append.mp hm with hm | hm
          · exact nD hm
          · have e : D = q := by simpa using hm
            exact qD e.symm
        · intro r hr
          rcases List.mem_append.mp hr with hr | hr
          · exact fr r hr
          · have e : r = q := by simpa using hr
            subst e
            exact s1.free hq'
    · rintro H1 ⟨rs, s1, eD, el, er, nd, nD, fr⟩
      have M1 : NewM H H1 D n (initM []) rs := ⟨s1, ⟨eD, el, fun x r e => by
        rw [er r (List.mem_of_getElem? e)]
        exact congrArg (fun l => some (HO.lst l)) (rowV_congr fun y _ => by simp [initM]), nd, nD⟩, hD, fr⟩
      clear s1 eD el er nd nD fr
      have hlen := DpAll.len ha
      refine for_seqA (H0 := H) hq (fun i σ H' => ∃ v4 v5 : Option V, σ = [some (.int (n : Int)), some (.ref a), some (.ref D), none, v4, v5, none, none, none] ∧ NewM H H' D n (initM ((ds.map prOf).take i)) rs)
        ⟨none, none, rfl, M1⟩ (fun i σ H' ⟨_, _, _, m⟩ => m.same) ?_ ?_ rfl
      · rintro i z σ H' hz ⟨v4, v5, rfl, m⟩
        obtain ⟨d, hd, dz⟩ := DpAll.get ha hz
        have hc1 := hc d (List.mem_of_getElem? hd)
        obtain ⟨x, y, e1, e2, hx, hy⟩ := couple_ok hc1
        have dz' := Dp.same m.same _ _ dz
        have hxn : x < n := by omega
        have hyn : y < n := by omega
        obtain ⟨r, hr, har, her⟩ := m.mat.get hxn
        have fin : NewM H (upd H' r (.lst ((rowV n (initM ((ds.map prOf).take i) x)).set y (.bl true)))) D n (initM ((ds.map prOf).take (i + 1))) rs := by
          refine ⟨same_mut m.same (m.frees r (List.mem_of_getElem? hr)), ?_, m.free, m.frees⟩
          have q := m.mat.put (b := true) hr hyn
          rw [initM_snoc] at q
          have e3 : (ds.map prOf).take (i + 1) = (ds.map prOf).take i ++ [(x, y)] := by
            rw [List.take_add_one, List.getElem?_map, hd]
            show _ ++ [prOf d] = _
            rw [e2]
          rw [e3]
          exact q
        refine ⟨?_⟩
        obtain ⟨p, zs, es, rfl, hq2, ha2, hs2⟩ := seq_dp dz' (by unfold couple at hc1; cases d <;> first | rfl | cases hc1)
        rw [e1] at hs2
        cases hs2
        cases ha2 with
        | cons a0 r0 =>
          cases r0 with
          | cons a1 r1 =>
            cases r1
            cases a0
            cases a1
            rcases hq2 with hq2 | hq2
            · refine .inr ⟨p, _, rfl, hq2, rfl, _, _, rfl, _, _, rfl, rfl, ?_⟩
              walk_at "r"
              refine ⟨_, _, _, _, rfl, rfl, SqL.of m.mat.top, har, _, rfl, _, _, _, _, rfl, rfl, her, ixN_nat (by rw [rowV_len]; exact hyn), ?_⟩
              exact ⟨some (.int (x : Int)), some (.int (y : Int)), rfl, fin⟩
            · refine .inl ⟨p, _, rfl, hq2, rfl, _, _, rfl, _, _, rfl, rfl, ?_⟩
              walk_at "r"
              refine ⟨_, _, _, _, rfl, rfl, SqL.of m.mat.top, har, _, rfl, _, _, _, _, rfl, rfl, her, ixN_nat (by rw [rowV_len]; exact hyn), ?_⟩
              exact ⟨some (.int (x : Int)), some (.int (y : Int)), rfl, fin⟩
      · rintro σ H' ⟨v4, v5, rfl, m⟩
        have e0 : (ds.map prOf).take ys.length = ds.map prOf := by
          rw [hlen, List.take_of_length_le (by rw [List.length_map]; exact Nat.le_refl _)]
        rw [e0] at m
        clear M1 e0
        walk_at "r"
        refine for_range (lo := 0) (n := n) (fun i σ H2 => ∃ (v3 v4 v5 v6 : Option V) (rs' : List Addr), σ = [some (.int (n : Int)), some (.ref a), some (.ref D), v3, v4, v5, v6, none, none] ∧ NewM H H2 D n (closeM n (initM (ds.map prOf)) i) rs')
          ⟨none, v4, v5, none, rs, rfl, m⟩ ?_ ?_
        · rintro mid σ H2 hmid ⟨v3, v4', v5', v6, rs2, rfl, m2⟩
          walk_at "r"
          refine for_range (lo := 0) (n := n) (fun i σ H3 => ∃ (v6 : Option V) (rs' : List Addr), σ = [some (.int (n : Int)), some (.ref a), some (.ref D), some (.int ((0 : Int) + mid)), v4', v5', v6, none, none] ∧ NewM H H3 D n (relaxes (closeM n (initM (ds.map prOf)) mid) mid i) rs')
            ⟨v6, rs2, rfl, m2⟩ ?_ ?_
          · rintro low σ H3 hlow ⟨v6', rs3, rfl, m3⟩
            have c0 : ∀ z : Nat, (0 : Int) + (z : Nat) = ((z : Nat) : Int) := fun z => by omega
            obtain ⟨r, hr, har, her⟩ := m3.mat.get hlow
            obtain ⟨r2, hr2, har2, her2⟩ := m3.mat.get hmid
            walk_at "r"
            rw [c0, c0]
            refine ⟨_, _, _, _, rfl, rfl, SqL.of m3.mat.top, har, _, rfl, _, _, _, _, rfl, rfl, SqL.of her, rowV_at hmid, _, rfl, ?_⟩
            refine iteB (fun c => ?_) (fun c => ?_)
            · walk_at "r"
              intro D2 hD2
              refine lc_range (lo := 0) (n := n) (fun j H4 => Same H3 H4 ∧ H4 D2 = some (.lst (rowV j fun b => relaxes (closeM n (initM (ds.map prOf)) mid) mid low low b || relaxes (closeM n (initM (ds.map prOf)) mid) mid low mid b)))
                ⟨same_new hD2, upd_same⟩ ?_ ?_
              · rintro j H4 hj ⟨s4, e4⟩
                refine ⟨rfl, ?_⟩
                have fin : ∀ b, b = (relaxes (closeM n (initM (ds.map prOf)) mid) mid low low j || relaxes (closeM n (initM (ds.map prOf)) mid) mid low mid j) →
                    ∃ acc, H4 D2 = some (.lst acc) ∧ acc.length < sizeLine ∧ Same H3 (upd H4 D2 (.lst (acc ++ [V.bl b]))) ∧ upd H4 D2 (.lst (acc ++ [V.bl b])) D2 =
                      some (.lst (rowV (j + 1) fun b => relaxes (closeM n (initM (ds.map prOf)) mid) mid low low b || relaxes (closeM n (initM (ds.map prOf)) mid) mid low mid b)) := fun b eb =>
                  ⟨_, e4, small1000 (by rw [rowV_len]; omega), same_mut s4 hD2, by rw [upd_same, eb]; exact congrArg (fun l => some (HO.lst l)) rowV_snoc⟩
                refine ⟨_, rfl, _, rfl, _, _, _, _, rfl, rfl, SqL.of (s4 _ _ m3.mat.top), har, _, rfl, _, _, _, _, rfl, rfl, SqL.of (s4 _ _ her), (by rw [c0]; exact rowV_at hj), _, rfl, ?_⟩
                refine iteB (fun c2 => ?_) (fun c2 => ?_)
                · exact fin true (by rw [c2]; rfl)
                · refine ⟨_, rfl, _, rfl, _, _, _, _, rfl, rfl, SqL.of (s4 _ _ m3.mat.top), har2, _, rfl, _, _, _, _, rfl, rfl, SqL.of (s4 _ _ her2), (by rw [c0]; exact rowV_at hj), ?_⟩
                  exact fin _ (by rw [c2]; rfl)
              · rintro H4 ⟨s4, e4⟩
                have m4 := m3.mat.same s4
                have nD2 : D2 ∉ rs3 := fun hm => by
                  obtain ⟨x, hx⟩ := List.getElem?_of_mem hm
                  exact ne_of_none (m3.mat.row x D2 hx) hD2 rfl
                have np : D2 ≠ D := ne_of_none' m3.mat.top hD2
                have q := m4.swap (x := low) e4 nD2 np
                walk_at "r"
                refine ⟨_, _, _, _, rfl, rfl, m4.top, ixN_nat (by rw [List.length_map, m4.len]; exact hlow), ?_⟩
                refine ⟨_, rs3.set low D2, rfl, same_mut (m3.same.trans s4) m3.free, ?_, m3.free, fun r hr => ?_⟩
                · have er : relaxes (closeM n (initM (ds.map prOf)) mid) mid (low + 1) = (fun a => if a = low then (fun b => relaxes (closeM n (initM (ds.map prOf)) mid) mid low low b || relaxes (closeM n (initM (ds.map prOf)) mid) mid low mid b) else relaxes (closeM n (initM (ds.map prOf)) mid) mid low a) := by
                    show relax _ mid low = _
                    unfold relax
                    rw [if_pos c]
                  rw [er]
                  exact q
                · rcases List.mem_or_eq_of_mem_set hr with h | h
                  · exact m3.frees r h
                  · rw [h]
                    exact m3.same.free hD2
            · have er : relaxes (closeM n (initM (ds.map prOf)) mid) mid (low + 1) = relaxes (closeM n (initM (ds.map prOf)) mid) mid low := by
                show relax _ mid low = _
                unfold relax
                rw [if_neg (by rw [c]; exact Bool.false_ne_true)]
              refine ⟨_, rs3, rfl, ?_⟩
              rw [er]
              exact m3
          · rintro σ H3 ⟨v6', rs3, rfl, m3⟩
            exact ⟨_, _, _, _, rs3, rfl, m3⟩
        · rintro σ H2 ⟨v3, v4', v5', v6, rs2, rfl, m2⟩
          walk_at "r"
          exact k D rs2 H2 m2
end
end Z

set_option Elab.async false
set_option linter.all false
set_option maxRecDepth 100000
namespace Z
open PySem L2
variable [TabsP]
/-! ## the closing by values -/
def dcD (d : D) : Option (Int × Int) := match seqOfD d with
  | some [.int a, .int b] => some (a, b)
  | _ => none
def prD (d : D) : Nat × Nat := match dcD d with
  | some (a, b) => (a.toNat, b.toNat)
  | none => (0, 0)
def toP (d : D) : PyData := match d with
  | .lst [.int a, .int b] => .list [.int a, .int b]
  | .tup [.int a, .int b] => .tuple [.int a, .int b]
  | .tpx [.int a, .int b] => .tuple [.int a, .int b]
  | _ => .none
/-- a couple of states below n -/
def CpD (n : Nat) (d : D) : Prop := ∃ a b : Nat, dcD d = some ((a : Int), (b : Int)) ∧ a < n ∧ b < n
section
variable {K : PySem.W.Frag} {hd : Option Addr} {F H : Hp}
theorem dcD_seq {d : D} {x : Int × Int} (h : dcD d = some x) : seqOfD d = some [.int x.1, .int x.2] := by
  unfold dcD at h
  split at h
  · rename_i a b e
    cases h
    exact e
  · cases h
theorem toP_dp {d : D} {v : V} {x : Int × Int} (h : dcD d = some x) (s : Same F H) (r : Rv K hd F v d) : Dp K H v (toP d) ∧ seqOf (toP d) = some [.int x.1, .int x.2] := by
  have e := dcD_seq h
  cases d <;> simp only [seqOfD] at e <;> first | cases e | skip
  · cases r with
    | lst a b =>
      cases b with
      | cons b1 b2 =>
        cases b2 with
        | cons b2 b3 =>
          cases b3
          cases b1
          cases b2
          exact ⟨.lst (SqL.of (s _ _ a)) (.cons (.int _) (.cons (.int _) .nil)), rfl⟩
  · cases r with
    | tup a b =>
      cases b with
      | cons b1 b2 =>
        cases b2 with
        | cons b2 b3 =>
          cases b3
          cases b1
          cases b2
          exact ⟨.tup (Same.sqT s a) (.cons (.int _) (.cons (.int _) .nil)), rfl⟩
  · cases r with
    | tpx a e b =>
      cases b with
      | cons b1 b2 =>
        cases b2 with
        | cons b2 b3 =>
          cases b3
          cases b1
          cases b2
          exact ⟨.tup (.inl (.inr ⟨_, s _ _ a⟩)) (.cons (.int _) (.cons (.int _) .nil)), rfl⟩
theorem toP_all (s : Same F H) : ∀ {ds : List D} {vs : List V}, (∀ d ∈ ds, ∃ x, dcD d = some x) → RvA K hd F vs ds → DpAll K H vs (ds.map toP)
  | [], _, _, r => by cases r; exact .nil
  | d :: ds, _, h, r => by
    cases r with
    | cons a b =>
      obtain ⟨x, e⟩ := h d (by simp)
      exact .cons (toP_dp e s a).1 (toP_all s (fun z hz => h z (by simp [hz])) b)
theorem toP_couple {n : Nat} {d : D} (h : CpD n d) : couple (toP d) ((n : Int) - 1) = true ∧ prOf (toP d) = prD d := by
  obtain ⟨a, b, e, ha, hb⟩ := h
  have e2 := dcD_seq e
  have e3 : prD d = (a, b) := by unfold prD; rw [e]; simp
  rw [e3]
  have c : ∀ x : Nat, x < n → whole (.int (x : Int)) (some 0) (some ((n : Int) - 1)) = true := fun x hx => by
    simp [whole]
    omega
  cases d <;> simp only [seqOfD] at e2 <;> first | cases e2 | skip
  all_goals
    refine ⟨?_, ?_⟩
    · simp [toP, couple, seqOf, isSeq, isL, isT, whole]
      omega
    · simp [toP, prOf, seqOf]
end
def wClosed : DW := fun ds Q _ => ∃ (n : Nat) (p : D) (ps : List D), ds = [.int (n : Int), p] ∧ 1 ≤ n ∧ n ≤ 24 ∧ seqOfD p = some ps ∧ (∀ d ∈ ps, CpD n d) ∧ Q (.new (rowsD n (closeM n (initM (ps.map prD)) n)))
theorem rows_rv {K : PySem.W.Frag} {hd : Option Addr} {F : Hp} {n : Nat} {M : Nat → Nat → Bool} {rs : List Addr} (len : rs.length = n) (h : ∀ x r, rs[x]? = some r → F r = some (.lst (rowV n (M x)))) : RvA K hd F (rs.map V.ref) (rowsD n M) := by
  have row : ∀ (l : List Nat) (f : Nat → Bool), RvA K hd F (l.map fun y => V.bl (f y)) (l.map fun y => D.bl (f y)) := fun l f => by
    induction l with
    | nil => exact .nil
    | cons a l ih => exact .cons (.bl _) ih
  have go : ∀ (k : Nat) (rs : List Addr), (∀ x r, rs[x]? = some r → F r = some (.lst (rowV n (M (k + x))))) → RvA K hd F (rs.map V.ref) ((List.range rs.length).map fun x => .lst ((List.range n).map fun y => .bl (M (k + x) y))) := by
    intro k rs
    induction rs generalizing k with
    | nil => intro _; exact .nil
    | cons r rs ih =>
      intro h
      rw [List.length_cons, List.range_succ_eq_map, List.map_cons, List.map_cons, List.map_map]
      refine .cons (.lst (h 0 r rfl) (row _ _)) ?_
      have := ih (k + 1) (fun x r' e => by rw [h (x + 1) r' e, Nat.add_right_comm, Nat.add_assoc])
      have e : ((fun x => D.lst ((List.range n).map fun y => D.bl (M (k + x) y))) ∘ Nat.succ) = fun x => D.lst ((List.range n).map fun y => D.bl (M (k + 1 + x) y)) := by
        funext x
        show D.lst ((List.range n).map fun y => D.bl (M (k + (x + 1)) y)) = _
        rw [show k + (x + 1) = k + 1 + x by omega]
      rw [e]
      exact this
  have := go 0 rs (fun x r e => by rw [Nat.zero_add]; exact h x r e)
  rw [len] at this
  simpa [rowsD, rowD] using this
theorem spClosed_of {K : PySem.W.Frag} {vs : List V} {H : Hp} {Q : VK} {E : XK} (h : spD K wClosed vs H Q E) : spClosed K vs H Q E := by
  obtain ⟨B, ds, P, ex, rfl, rfl, ok, ra, ⟨n, p, ps, rfl, h1, h24, hs, hc, q⟩, k, hl⟩ := h
  cases ra with
  | cons r1 r2 =>
    cases r1
    cases r2 with
    | cons r3 r4 =>
      cases r4
      rename_i v
      obtain ⟨a, ys, rfl, hq, ha⟩ : ∃ (a : Addr) (ys : List V), v = .ref a ∧ (SqL B.K B.H0 a ys ∨ SqT B.K B.H0 a ys) ∧ RvA B.K B.hd B.F0 ys ps := by
        cases p <;> simp only [seqOfD] at hs <;> first | cases hs | skip
        · cases r3 with
          | lst a b => exact ⟨_, _, rfl, .inl (SqL.of (ok.sub _ _ a)), b⟩
        · cases r3 with
          | tup a b => exact ⟨_, _, rfl, .inr (Same.sqT ok.sub a), b⟩
        · cases r3 with
          | tpx a e b => exact ⟨_, _, rfl, .inr (.inl (.inr ⟨_, ok.sub _ _ a⟩)), b⟩
      refine ⟨n, a, ys, ps.map toP, rfl, h1, h24, hq, toP_all ok.sub (fun d hd => by obtain ⟨x, y, e, _⟩ := hc d hd; exact ⟨_, e⟩) ha, fun d hd => ?_, fun m rs H' nm => ?_⟩
      · obtain ⟨d', hd', rfl⟩ := List.mem_map.mp hd
        exact (toP_couple (hc d' hd')).1
      · have epr : (ps.map toP).map prOf = ps.map prD := by
          rw [List.map_map]
          exact List.map_congr_left fun d hd => (toP_couple (hc d hd)).2
        rw [epr] at nm
        have f0 : ∀ b, B.H0 b = none → B.F0 b = none := fun b e => by
          cases z : B.F0 b with
          | none => rfl
          | some o => rw [ok.sub _ _ z] at e; cases e
        refine k (.new _) (.ref m) (fun b => if b ∈ rs then H' b else B.F0 b) H' q ⟨fun b o e => ?_, ⟨fun b o e => ?_, fun b ps e => ?_, ok.sb.tb.ext fun b o e => nm.same _ _ e⟩, fun b hb => ?_, fun b o e _ _ => nm.same _ _ e, fun p e => ?_⟩ ⟨m, rs.map V.ref, rfl, nm.mat.top, rows_rv nm.mat.len fun x r e => ?_, ?_, (.of nm.free)⟩
        · have : b ∉ rs := fun z => by rw [f0 b (nm.frees b z)] at e; cases e
          show (if b ∈ rs then _ else _) = _
          rw [if_neg this]
          exact e
        · try dsimp only at e
          split at e
          · exact e
          · exact nm.same _ _ (ok.sub _ _ e)
        · try dsimp only at e
          split at e
          · rename_i z
            obtain ⟨x, hx⟩ := List.getElem?_of_mem z
            rw [nm.mat.row x b hx] at e
            cases e
          · exact ok.sb.nt b ps e
        · dsimp only at hb
          split at hb
          · rename_i z
            exact .inr (.of (nm.frees b z))
          · exact .inl hb
        · obtain ⟨z1, z2⟩ := ok.hnd p e
          obtain ⟨o, eo, t⟩ := z1.ex1
          refine ⟨z1.same nm.same, ?_, someO eo t⟩
          have : p.1 ∉ rs := fun z => by rw [nm.frees _ z] at eo; cases eo
          show (if p.1 ∈ rs then _ else _) = _
          rw [if_neg this]
          exact z2
        · show (if r ∈ rs then _ else _) = _
          rw [if_pos (List.mem_of_getElem? e)]
          exact nm.mat.row x r e
        · show (if m ∈ rs then _ else _) = _
          rw [if_neg nm.mat.np]
          exact f0 m nm.free
section
variable {P : Program} {w : World} {K : PySem.W.Frag} {mg : Str → Option Value} {base : Heap}
theorem ok_closedD {f : Addr} {fd : FuncData} (F : Fun K "_closed" "_closed" s_closed f fd) (T : Bl mg) : FnOk P w K mg base CX0 1 f fd ["n", "pairs"] (spD K wClosed) :=
  ⟨fun vs H Q E h => (ok_closed (P := P) (w := w) (base := base) F T).len vs H Q E (spClosed_of h), fun A outer s H args us vs Q E hr he hb hv h => (ok_closed F T).run A outer s H args us vs Q E hr he hb hv (spClosed_of h)⟩
end
end Z

set_option Elab.async false
set_option linter.all false
set_option maxRecDepth 100000
namespace Z
open PySem L2
variable [TabsP]
local macro_rules | `(tactic| walk_at "d") => `(tactic| simp only [dSq, dIf, dOr, dAnd, dNot, dTT, dTB, dUn, dBin, dVar, dC, dRet, dNext, dOrV, dAndV, dNotT, dIfE, isiD, OV.isOwn, startD, List.map_cons, List.map_nil, List.cons_append, List.nil_append, List.append_nil, List.length_cons, List.length_nil, List.replicate, Nat.reduceAdd, Nat.reduceSub, Nat.sub_self, Nat.add_sub_cancel,
  List.getElem?_cons_zero, List.getElem?_cons_succ, bOk, iv_d, iv_n, iv_v, nr_d, nr_n, List.any_cons, List.any_nil, Bool.or_false, Bool.or_true, Bool.false_eq_true, Bool.not_true, Bool.not_false, false_implies, true_and, and_true, if_true, if_false, ite_true, ite_false, forall_const, reduceIte, reduceCtorEq,
  d0_1, dI_1, ad_i, ad_t, ad_l, ng_1, dCa, dCall0, dCons, dNil, dTup, dLst, dEq, dSeq, dRange, dEnum, dRg1, dRg2, dListRg, dTupRg, dSl, dONone, dOSome, dCall, mv_d, mv_n, mv_v, nn_n, nn_b, nn_i, nn_s, nn_l, nn_t, nn_x, nn_d, dSetF, dSetO, dDrop, dFor, dgName, dgTup, dgCons, dgNil, dRetN, dYes, it_1, pm_1, nmR, dXf, dIsE, sq_l, sq_t, sq_x, tr_n, tr_b, tr_i, tr_l, tr_t, tr_x, tr_d, vl_d, vl_n, vl_v, fr_d, fr_o, fr_k, sl_l, sl_t, sl_x, le_1, li_1, tu_1, tu_l, tu_t, tu_x, tx_1, tx_l, tx_t, tx_x, rr_d, rr_n, rr_v, in_1, ix_1, dt_1, isB_1, dCallT, dIdx, dRaise, dAsg, dDnew, List.set_cons_zero, List.set_cons_succ, noOwnAt, List.all_cons, List.all_nil, wipeE, lent, hasOwn, Option.map_some, Option.map_none, dLc, lt_n, pl_n, tyB_n, tyI_n, tyS_n, tyL_n, tyT_n, lt_b, pl_b, tyB_b, tyI_b, tyS_b, tyL_b, tyT_b, lt_i, pl_i, tyB_i, tyI_i, tyS_i, tyL_i, tyT_i, lt_s, pl_s, tyB_s, tyI_s, tyS_s, tyL_s, tyT_s, lt_l, pl_l, tyB_l, tyI_l, tyS_l, tyL_l, tyT_l, lt_t, pl_t, tyB_t, tyI_t, tyS_t, tyL_t, tyT_t, lt_x, pl_x, tyB_x, tyI_x, tyS_x, tyL_x, tyT_x, lt_d, pl_d, tyB_d, tyI_d, tyS_d, tyL_d, tyT_d, noL, noLA, Bool.and_true, Bool.true_and])
local macro_rules | `(tactic| walk_at "e") => `(tactic| first | exact ⟨_, rfl, rfl⟩ | rfl)
abbrev s_whole : Stmt := top 6
abbrev s_seq : Stmt := top 7
section
variable {P : Program} {w : World} {K : PySem.W.Frag} {mg : Str → Option Value} {base : Heap}
theorem sc_whole : FnScope ["thing", "low", "high"] ["thing", "low", "high"] (defScope s_whole) := ⟨rfl, rfl, rfl, by decide +kernel, rfl, by decide +kernel, by decide +kernel⟩
theorem sc_seq : FnScope ["thing"] ["thing"] (defScope s_seq) := ⟨rfl, rfl, rfl, by decide +kernel, rfl, by decide +kernel, by decide +kernel⟩
def bndD : D → Option (Option Int)
  | .non => some none
  | .int i => some (some i)
  | _ => none
/-- a whole number within bounds -/
def wholeD (d : D) (lo hi : Option Int) : Bool :=
  match d with
  | .int i => (match lo with | some l => decide (l ≤ i) | none => true) && (match hi with | some u => decide (i ≤ u) | none => true)
  | _ => false
def wWhole : DW := fun ds Q _ => ∃ d lo hi l h, ds = [d, lo, hi] ∧ bndD lo = some l ∧ bndD hi = some h ∧ plainD d = true ∧ Q (.dat (.bl (wholeD d l h)))
theorem ok_whole {f : Addr} {fd : FuncData} (F : FunD K "is_whole" "is_whole" (defArgs s_whole) (defBody s_whole) (defScope s_whole) [.non, .non] [] f fd) (T : Bl mg) : FnOk P w K mg base CX0 1 f fd ["thing", "low", "high"] (spD K wWhole) := by
  refine okDD F sc_whole (fun ds Q ex h => ?_) (fun cdv A outer s H E hr md F0 a0 => ⟨_, _,
      (dss_cons (ds_if (DWs.ts (dw_or (dt_truth K (de_isi K .B (by rfl) T.n_isinstance (de_var (pv 0)) (pe_bltn (v := .ty "bool") (u := .type "bool") (by rfl) T.n_bool (by decide +kernel) rfl))) (dw_or1 (dt_not (dt_truth K (de_isi K .I (by rfl) T.n_isinstance (de_var (pv 0)) (pe_bltn (v := .ty "int") (u := .type "int") (by rfl) T.n_int (by decide +kernel) rfl)))))))
        (dss_one (ds_ret de_bl))
        dss_nil)
      (dss_cons (ds_if (DWs.ts (dw_and (dt_cmp op_notN opd_notN (de_var (pv 1)) de_non (nomark _)) (dw_and1 (dt_cmp op_lt opd_B0 (de_var (pv 0)) (de_var (pv 1)) (nomark _)))))
        (dss_one (ds_ret de_bl))
        dss_nil)
      (dss_one (ds_ret (de_or (de_cmp op_isN opd_isN (de_var (pv 2)) de_non (nomark _)) (de_one (de_cmp op_le opd_B0 (de_var (pv 0)) (de_var (pv 2)) (nomark _))))))))
      , fun ds Q ex h => ?_⟩)
  · obtain ⟨_, _, _, _, _, rfl, _⟩ := h
    rfl
  · obtain ⟨d, lo, hi, l, h, rfl, e1, e2, pd, q⟩ := h
    cases d <;> cases pd <;> cases lo <;> cases e1 <;> cases hi <;> cases e2
    all_goals walk_at "d"
    all_goals try exact q
    all_goals (simp only [decide_eq_true_eq]; split <;> rename_i e)
    · simpa [wholeD, Int.not_le.mpr e] using q
    · simpa [wholeD, Int.not_lt.mp e] using q
    · simpa [wholeD, Int.not_le.mpr e] using q
    · simpa [wholeD, Int.not_lt.mp e] using q
def wIsSeq : DW := fun ds Q _ => ∃ d, ds = [d] ∧ plainD d = true ∧ Q (.dat (.bl (isLT d)))
theorem ok_seq {f : Addr} {fd : FuncData} (F : Fun K "is_sequence" "is_sequence" s_seq f fd) (T : Bl mg) : FnOk P w K mg base CX0 1 f fd ["thing"] (spD K wIsSeq) := by
  refine okD F sc_seq (fun ds Q ex h => ?_) (fun cdv A outer s H E hr md F0 a0 => ⟨_, _,
      (dss_one (ds_ret (de_isiLT K (by rfl) T.n_isinstance (de_var (pv 0)) (pe_bltn (v := .ty "list") (u := .type "list") (by rfl) T.n_list (by decide +kernel) rfl) (pe_bltn (v := .ty "tuple") (u := .type "tuple") (by rfl) T.n_tuple (by decide +kernel) rfl))))
      , fun ds Q ex h => ?_⟩)
  · obtain ⟨_, rfl, _⟩ := h
    rfl
  · obtain ⟨d, rfl, pd, q⟩ := h
    walk_at "d"
    exact ⟨pd, q⟩
end
end Z

set_option Elab.async false
set_option linter.all false
set_option maxRecDepth 100000
namespace Z
open PySem L2
variable [TabsP]
local macro_rules | `(tactic| walk_at "d") => `(tactic| simp only [dSq, dIf, dOr, dAnd, dNot, dTT, dTB, dUn, dBin, dVar, dC, dRet, dNext, dOrV, dAndV, dNotT, dIfE, isiD, OV.isOwn, startD, List.map_cons, List.map_nil, List.cons_append, List.nil_append, List.append_nil, List.length_cons, List.length_nil, List.replicate, Nat.reduceAdd, Nat.reduceSub, Nat.sub_self, Nat.add_sub_cancel,
  List.getElem?_cons_zero, List.getElem?_cons_succ, bOk, iv_d, iv_n, iv_v, nr_d, nr_n, List.any_cons, List.any_nil, Bool.or_false, Bool.or_true, Bool.false_eq_true, Bool.not_true, Bool.not_false, false_implies, true_and, and_true, if_true, if_false, ite_true, ite_false, forall_const, reduceIte, reduceCtorEq,
  d0_1, dI_1, ad_i, ad_t, ad_l, ng_1, dCa, dCall0, dCons, dNil, dTup, dLst, dEq, dSeq, dRange, dEnum, dRg1, dRg2, dListRg, dTupRg, dSl, dONone, dOSome, dCall, mv_d, mv_n, mv_v, nn_n, nn_b, nn_i, nn_s, nn_l, nn_t, nn_x, nn_d, dSetF, dSetO, dDrop, dFor, dgName, dgTup, dgCons, dgNil, dRetN, dYes, it_1, pm_1, nmR, dXf, dIsE, sq_l, sq_t, sq_x, tr_n, tr_b, tr_i, tr_l, tr_t, tr_x, tr_d, vl_d, vl_n, vl_v, fr_d, fr_o, fr_k, sl_l, sl_t, sl_x, le_1, li_1, tu_1, tu_l, tu_t, tu_x, tx_1, tx_l, tx_t, tx_x, rr_d, rr_n, rr_v, in_1, ix_1, dt_1, isB_1, dCallT, dIdx, dRaise, dAsg, dDnew, List.set_cons_zero, List.set_cons_succ, noOwnAt, List.all_cons, List.all_nil, wipeE, lent, hasOwn, Option.map_some, Option.map_none, dLc, lt_n, pl_n, tyB_n, tyI_n, tyS_n, tyL_n, tyT_n, lt_b, pl_b, tyB_b, tyI_b, tyS_b, tyL_b, tyT_b, lt_i, pl_i, tyB_i, tyI_i, tyS_i, tyL_i, tyT_i, lt_s, pl_s, tyB_s, tyI_s, tyS_s, tyL_s, tyT_s, lt_l, pl_l, tyB_l, tyI_l, tyS_l, tyL_l, tyT_l, lt_t, pl_t, tyB_t, tyI_t, tyS_t, tyL_t, tyT_t, lt_x, pl_x, tyB_x, tyI_x, tyS_x, tyL_x, tyT_x, lt_d, pl_d, tyB_d, tyI_d, tyS_d, tyL_d, tyT_d, noL, noLA, Bool.and_true, Bool.true_and])
local macro_rules | `(tactic| walk_at "e") => `(tactic| first | exact ⟨_, rfl, rfl⟩ | rfl)
abbrev s_couple : Stmt := top 8
abbrev s_bo : Stmt := inClass (top 3) 0
abbrev s_parts : Stmt := top 12
abbrev s_cc : Stmt := top 14
abbrev s_cov : Stmt := top 15
section
variable {P : Program} {w : World} {K : PySem.W.Frag} {mg : Str → Option Value} {base : Heap}
theorem sc_couple : FnScope ["thing", "high"] ["thing", "high"] (defScope s_couple) := ⟨rfl, rfl, rfl, by decide +kernel, rfl, by decide +kernel, by decide +kernel⟩
theorem sc_bo : FnScope ["self", "what", "at"] ["self", "what", "at"] (defScope s_bo) := ⟨rfl, rfl, rfl, by decide +kernel, rfl, by decide +kernel, by decide +kernel⟩
theorem sc_parts : FnScope ["n", "pairs", "at", "pair"] ["n", "pairs"] (defScope s_parts) := ⟨rfl, rfl, rfl, by decide +kernel, rfl, by decide +kernel, by decide +kernel⟩
theorem sc_cc : FnScope ["less", "state"] ["less"] (defScope s_cc) := ⟨rfl, rfl, rfl, by decide +kernel, rfl, by decide +kernel, by decide +kernel⟩
theorem sc_cov : FnScope ["less", "low", "high", "mid"] ["less", "low", "high"] (defScope s_cov) := ⟨rfl, rfl, rfl, by decide +kernel, rfl, by decide +kernel, by decide +kernel⟩
theorem ok_bo {f C : Addr} {fd : FuncData} (F : Fun K "__init__" "BadOrder.__init__" s_bo f fd) (ox : OexC K C) (n1 : PySem.W.findIn K (.ref C) "what" = some none) (n2 : PySem.W.findIn K (.ref C) "at" = some none) : FnOk P w K mg base CX0 1 f fd ["self", "what", "at"] (spEx C ["what", "at"]) :=
  ok_ex2 F sc_bo ox n1 n2 rfl fun cdv A outer s H E => pss_cons (ps_ost (pv 0) (pv 1)) (pss_one (ps_ost (pv 0) (pv 2)))
/-- what is_couple answers -/
def cplB (n : Nat) (d : D) : Bool := match seqOfD d with
  | some [a, b] => wholeD a (some 0) (some ((n : Int) - 1)) && wholeD b (some 0) (some ((n : Int) - 1))
  | _ => false
structure PlD (d : D) : Prop where
  p : plainD d = true
  a : ∀ xs, seqOfD d = some xs → ∀ x ∈ xs, plainD x = true
theorem CpD.pl {n : Nat} {d : D} (h : CpD n d) : PlD d ∧ cplB n d = true := by
  obtain ⟨a, b, e, ha, hb⟩ := h
  have e2 := dcD_seq e
  refine ⟨⟨(by cases d <;> first | rfl | cases e2), fun xs h x hx => ?_⟩, ?_⟩
  · rw [e2] at h
    cases h
    rcases List.mem_cons.mp hx with rfl | hx
    · rfl
    · cases List.mem_singleton.mp hx
      rfl
  · unfold cplB
    rw [e2]
    simp [wholeD]
    omega
def wCouple : DW := fun ds Q _ => ∃ (n : Nat) (d : D), ds = [d, .int ((n : Int) - 1)] ∧ PlD d ∧ Q (.dat (.bl (cplB n d)))
theorem ok_couple {f : Addr} {fd : FuncData} (F : Fun K "is_couple" "is_couple" s_couple f fd) (T : Bl mg) (cis_whole : Cal P w K mg base CX0 "is_whole" 1 (spD K wWhole)) (cis_sequence : Cal P w K mg base CX0 "is_sequence" 1 (spD K wIsSeq)) :
    FnOk P w K mg base CX0 2 f fd ["thing", "high"] (spD K wCouple) := by
  refine okD F sc_couple (fun ds Q ex h => ?_) (fun cdv A outer s H E hr md F0 a0 => ⟨_, _,
      (dss_one (ds_ret (de_and (de_call cis_sequence (hr.mono (by decide)) (by rfl) (da_cons (de_var (pv 0)) da_nil)) (de_and (de_cmp (keqD K hr.units) opd_eq (de_callB (klen K) cad_len (by rfl) T.n_len PySem.boot_len (da_cons (de_var (pv 0)) da_nil)) de_int (nomark _)) (de_and (de_call cis_whole (hr.mono (by decide)) (by rfl) (da_cons (de_ix (kix_seq K) opd_ix (de_var (pv 0)) de_int (fun _ _ => rfl)) (da_cons de_int (da_cons (de_var (pv 1)) da_nil)))) (de_one (de_call cis_whole (hr.mono (by decide)) (by rfl) (da_cons (de_ix (kix_seq K) opd_ix (de_var (pv 0)) de_int (fun _ _ => rfl)) (da_cons de_int (da_cons (de_var (pv 1)) da_nil))))))))))
      , fun ds Q ex h => ?_⟩)
  · obtain ⟨_, _, rfl, _⟩ := h
    rfl
  · obtain ⟨n, d, rfl, pd, q⟩ := h
    obtain ⟨p, pa⟩ := pd
    cases d
    case obj | cls | hnd | ty => cases p
    case non | bl | int | str | dct =>
      walk_at "d"
      refine ⟨_, rfl, rfl, ?_⟩
      exact ite_f (by simp [isLT]) q
    case lst xs | tup xs | tpx xs =>
      have pa := pa xs rfl
      walk_at "d"
      refine ⟨_, rfl, rfl, ?_⟩
      refine ite_t rfl ?_
      rcases xs with _ | ⟨x, _ | ⟨y, _ | ⟨z, r⟩⟩⟩
      · refine ⟨rfl, rfl, ite_f (by decide) q⟩
      · refine ⟨rfl, rfl, ite_f (by simp [eqD, toPy, PyData.eqv]) q⟩
      · have px := pa x (by simp)
        have py := pa y (by simp)
        refine ⟨rfl, rfl, ite_t rfl ?_⟩
        refine ⟨_, rfl, _, _, _, _, _, rfl, rfl, rfl, px, ?_⟩
        unfold cplB at q
        simp only [seqOfD] at q
        cases e1 : wholeD x (some 0) (some ((n : Int) - 1)) with
        | false =>
          rw [e1] at q
          exact ite_f (by simp [e1]) (by simpa [e1] using q)
        | true =>
          rw [e1] at q
          refine ite_t (by simp [e1]) ?_
          refine ⟨_, rfl, _, _, _, _, _, rfl, rfl, rfl, py, ?_⟩
          exact q
      · refine ⟨rfl, rfl, ite_f (by simp [eqD, toPy, PyData.eqv]; omega) q⟩
/-- right parts of an order -/
structure PartsOk (n : Nat) (ps : List D) : Prop where
  one : 1 ≤ n
  most : n ≤ 24
  many : ps.length ≤ 600
  cps : ∀ d ∈ ps, CpD n d
def wParts : DW := fun ds Q _ => ∃ (n : Nat) (p : D) (ps : List D), ds = [.int (n : Int), p] ∧ seqOfD p = some ps ∧ PartsOk n ps ∧ Q (.dat .non)
theorem ok_parts {bo f : Addr} {fd : FuncData} (F : Fun K "_check_parts" "_check_parts" s_parts f fd) (T : Bl mg) (g24 : ∃ t, mg "MOST_STATES" = some (.int 24 t)) (g600 : ∃ t, mg "MOST_PAIRS" = some (.int 600 t)) (cis_whole : Cal P w K mg base CX0 "is_whole" 1 (spD K wWhole)) (cis_sequence : Cal P w K mg base CX0 "is_sequence" 1 (spD K wIsSeq)) (cis_couple : Cal P w K mg base CX0 "is_couple" 2 (spD K wCouple)) (xBadOrder : ExK P w K mg base "BadOrder" bo ["what", "at"]) :
    FnOk P w K mg base (L2.CX P w) 3 f fd ["n", "pairs"] (spD K wParts) := by
  obtain ⟨t24, g24⟩ := g24
  obtain ⟨t600, g600⟩ := g600
  refine okDX F sc_parts (fun ds Q ex h => ?_) (fun cdv A outer s H E hr md F0 a0 ex hl => ⟨_, _,
      (dss_cons (ds_if (dt_not (dt_truth K (de_call cis_whole (hr.mono (by decide)) (by rfl) (da_cons (de_var (pv 0)) (da_cons de_int (da_cons (de_cst (pe_glob (v := .int 24) (by rfl) g24 ⟨_, rfl⟩) fun _ => .int _) da_nil))))))
        (dss_one (ds_raise xBadOrder (takes_of rfl rfl rfl rfl) rfl (hr.mono (by decide)) (by rfl) (lxt_fn hl) (da_cons de_str (da_cons de_int da_nil))))
        dss_nil)
      (dss_cons (ds_if (DWs.ts (dw_or (dt_not (dt_truth K (de_call cis_sequence (hr.mono (by decide)) (by rfl) (da_cons (de_var (pv 1)) da_nil)))) (dw_or1 (dt_cmp op_gt opd_B0 (de_callB (klen K) cad_len (by rfl) T.n_len PySem.boot_len (da_cons (de_var (pv 1)) da_nil)) (de_cst (pe_glob (v := .int 600) (by rfl) g600 ⟨_, rfl⟩) fun _ => .int _) (nomark _)))))
        (dss_one (ds_raise xBadOrder (takes_of rfl rfl rfl rfl) rfl (hr.mono (by decide)) (by rfl) (lxt_fn hl) (da_cons de_str (da_cons de_int da_nil))))
        dss_nil)
      (dss_one (ds_for (passes_of rfl) rfl (di_enum K (by rfl) T.n_enumerate (de_var (pv 1))) (dg_tup K (n := 2) rfl (dgs_cons (dg_name (i := 2) sc_parts.nd rfl (Or.inl rfl)) (dgs_cons (dg_name (i := 3) sc_parts.nd rfl (Or.inl rfl)) dgs_nil)))
        (dss_one (ds_if (dt_not (dt_truth K (de_call cis_couple (hr.mono (by decide)) (by rfl) (da_cons (de_var (pv 3)) (da_cons (de_op op_sub opd_I0 (de_var (pv 0)) de_int) da_nil)))))
          (dss_one (ds_raise xBadOrder (takes_of rfl rfl rfl rfl) rfl (hr.mono (by decide)) (by rfl) (lxt_fn hl) (da_cons de_str (da_cons (de_var (pv 2)) da_nil))))
          dss_nil))))))
      , fun ds Q h => ?_⟩)
  · obtain ⟨_, _, _, rfl, _⟩ := h
    rfl
  · obtain ⟨n, p, ps, rfl, hs, ok, q⟩ := h
    walk_at "d"
    refine ⟨_, _, _, some 1, some 24, rfl, rfl, rfl, rfl, ?_⟩
    have w1 : wholeD (.int (n : Int)) (some 1) (some 24) = true := by
      have := ok.one
      have := ok.most
      simp [wholeD]
      omega
    rw [w1]
    walk_at "d"
    have pp : plainD p = true := by cases p <;> first | rfl | cases hs
    have lt : isLT p = true := by cases p <;> first | rfl | cases hs
    refine ⟨p, rfl, pp, ?_⟩
    rw [lt]
    walk_at "d"
    rw [hs]
    refine ite_f (by have := ok.many; simp; omega) ?_
    refine enum_go hs ?_
    rw [enD_eq]
    refine dFor_ind (fun es ρ => ∃ (k : Nat) (rs : List D) (a b : Option OV), es = enF k rs ∧ (∀ d ∈ rs, CpD n d) ∧ ρ = [some (OV.dat (.int (n : Int))), some (OV.dat p), a, b]) ?_ ?_ _ _ ⟨0, ps, _, _, rfl, ok.cps, rfl⟩
    · rintro ρ ⟨k, rs, a, b, e1, e2, rfl⟩
      exact q
    · rintro d es C ρ ⟨k, rs, a, b, e1, e2, rfl⟩ hC
      cases rs with
      | nil => cases e1
      | cons x rs =>
        cases e1
        walk_at "d"
        have cp := (e2 x (by simp)).pl
        refine ⟨n, x, rfl, cp.1, ?_⟩
        rw [cp.2]
        walk_at "d"
        exact hC _ ⟨k + 1, rs, _, _, rfl, fun d hd => e2 d (by simp [hd]), rfl⟩
/-- no ring, and 0 below all -/
structure SqOk (n : Nat) (M : Nat → Nat → Bool) : Prop where
  one : 1 ≤ n
  most : n ≤ 24
  irr : ∀ x, x < n → M x x = false
  zero : ∀ x, 0 < x → x < n → M 0 x = true
def wCC : DW := fun ds Q _ => ∃ (n : Nat) (M : Nat → Nat → Bool), ds = [.lst (rowsD n M)] ∧ SqOk n M ∧ Q (.dat .non)
theorem ok_cc {bo f : Addr} {fd : FuncData} (F : Fun K "_check_closed" "_check_closed" s_cc f fd) (T : Bl mg) (xBadOrder : ExK P w K mg base "BadOrder" bo ["what", "at"]) : FnOk P w K mg base (L2.CX P w) 3 f fd ["less"] (spD K wCC) := by
  refine okDX F sc_cc (fun ds Q ex h => ?_) (fun cdv A outer s H E hr md F0 a0 ex hl => ⟨_, _,
      (dss_cons (ds_for (passes_of rfl) rfl (di_range1 (by rfl) T.n_range (de_callB (klen K) cad_len (by rfl) T.n_len PySem.boot_len (da_cons (de_var (pv 0)) da_nil))) (dg_name (i := 1) sc_cc.nd rfl (Or.inl rfl))
        (dss_one (ds_if (dt_truth K (de_ix (kix_seq K) opd_ix (de_ix (kix_seq K) opd_ix (de_var (pv 0)) (de_var (pv 1)) (fun _ _ => rfl)) (de_var (pv 1)) (fun _ _ => rfl)))
          (dss_one (ds_raise xBadOrder (takes_of rfl rfl rfl rfl) rfl (hr.mono (by decide)) (by rfl) (lxt_fn hl) (da_cons de_str (da_cons (de_var (pv 1)) da_nil))))
          dss_nil)))
      (dss_one (ds_for (passes_of rfl) rfl (di_range2 (by rfl) T.n_range de_int (de_callB (klen K) cad_len (by rfl) T.n_len PySem.boot_len (da_cons (de_var (pv 0)) da_nil))) (dg_name (i := 1) sc_cc.nd rfl (Or.inl rfl))
        (dss_one (ds_if (dt_not (dt_truth K (de_ix (kix_seq K) opd_ix (de_ix (kix_seq K) opd_ix (de_var (pv 0)) de_int (fun _ _ => rfl)) (de_var (pv 1)) (fun _ _ => rfl))))
          (dss_one (ds_raise xBadOrder (takes_of rfl rfl rfl rfl) rfl (hr.mono (by decide)) (by rfl) (lxt_fn hl) (da_cons de_str (da_cons (de_var (pv 1)) da_nil))))
          dss_nil)))))
      , fun ds Q h => ?_⟩)
  · obtain ⟨_, _, rfl, _⟩ := h
    rfl
  · obtain ⟨n, M, rfl, ok, q⟩ := h
    have n24 := ok.most
    walk_at "d"
    rw [rowsD_len, rgD_n]
    refine ⟨r62_0, r62 (by omega), dFor_ns (fun ρ => ∃ o, ρ = [some (OV.dat (.lst (rowsD n M))), o]) ?_ ?_ ⟨_, rfl⟩⟩
    · rintro ρ ⟨o, rfl⟩
      walk_at "d"
      rw [rowsD_len, show rgD 1 (n : Int) = nsD ((List.range (n - 1)).map (1 + ·)) from rgD_an 1 n]
      refine ⟨r62_1, r62 (by omega), dFor_ns (fun ρ => ∃ o, ρ = [some (OV.dat (.lst (rowsD n M))), o]) ?_ ?_ ⟨_, rfl⟩⟩
      · rintro ρ ⟨o, rfl⟩
        exact q
      · rintro i hi C ρ ⟨o, rfl⟩ hC
        obtain ⟨j, hj, rfl⟩ := List.mem_map.mp hi
        have hj := List.mem_range.mp hj
        walk_at "d"
        refine ⟨_, atRR (x := 0) (by omega), _, atR (by omega), ?_⟩
        rw [ok.zero (1 + j) (by omega) (by omega)]
        walk_at "d"
        exact hC _ ⟨_, rfl⟩
    · rintro i hi C ρ ⟨o, rfl⟩ hC
      have hi := List.mem_range.mp hi
      walk_at "d"
      refine ⟨_, atRR hi, _, atR hi, ?_⟩
      rw [ok.irr i hi]
      walk_at "d"
      exact hC _ ⟨_, rfl⟩
def wCov : DW := fun ds Q _ => ∃ (n x y : Nat) (M : Nat → Nat → Bool), ds = [.lst (rowsD n M), .int (x : Int), .int (y : Int)] ∧ n ≤ 24 ∧ x < n ∧ y < n ∧ Q (.dat (.bl (covB n M x y)))
theorem ok_cov {f : Addr} {fd : FuncData} (F : Fun K "_is_cover" "_is_cover" s_cov f fd) (T : Bl mg) : FnOk P w K mg base CX0 1 f fd ["less", "low", "high"] (spD K wCov) := by
  refine okD F sc_cov (fun ds Q ex h => ?_) (fun cdv A outer s H E hr md F0 a0 => ⟨_, _,
      (dss_one (ds_ret (de_and (de_ix (kix_seq K) opd_ix (de_ix (kix_seq K) opd_ix (de_var (pv 0)) (de_var (pv 1)) (fun _ _ => rfl)) (de_var (pv 2)) (fun _ _ => rfl)) (de_one (de_notT K (de_callB (kany K rfl) cad_any (by rfl) T.n_any (by decide +kernel) (da_cons (de_lc (own := [("mid", 3)]) rfl sc_cov.nd (di_range1 (by rfl) T.n_range (de_callB (klen K) cad_len (by rfl) T.n_len PySem.boot_len (da_cons (de_var (pv 0)) da_nil))) (blkOk_by (own := [("mid", 3)]) (by show blkC ["less", "low", "high", "mid"] ((defScope s_cov)) _ _ = true; decide +kernel)) (fun _ _ _ _ _ _ _ _ => (dg_name (i := 3) sc_cov.nd rfl (Or.inl rfl))) (fun _ _ _ _ _ _ _ _ => dps_nil) (fun _ _ _ _ _ _ _ _ => (de_and (de_ix (kix_seq K) opd_ix (de_ix (kix_seq K) opd_ix (de_var (pv 0)) (de_var (pv 1)) (fun _ _ => rfl)) (de_var (pv 3)) (fun _ _ => rfl)) (de_one (de_ix (kix_seq K) opd_ix (de_ix (kix_seq K) opd_ix (de_var (pv 0)) (de_var (pv 3)) (fun _ _ => rfl)) (de_var (pv 2)) (fun _ _ => rfl))))) (by decide) s) da_nil)))))))
      , fun ds Q ex h => ?_⟩)
  · obtain ⟨_, _, _, _, rfl, _⟩ := h
    rfl
  · obtain ⟨n, x, y, M, rfl, n24, hx, hy, q⟩ := h
    walk_at "d"
    refine ⟨_, atRR hx, _, atR hy, ?_⟩
    unfold covB at q
    cases e : M x y with
    | false =>
      rw [e] at q
      walk_at "d"
      exact q
    | true =>
      rw [e] at q
      walk_at "d"
      rw [rowsD_len, rgD_n]
      refine ⟨r62_0, r62 (by omega), dLc_ns (fun _ => true) (fun i => .bl (M x i && M i y)) (by rw [List.length_range]; omega) (fun _ _ _ => rfl) (fun i hi T C0 h1 _ => ?_) ?_⟩
      · have hi := List.mem_range.mp hi
        walk_at "d"
        refine ⟨_, atRR hx, _, atR hi, ?_⟩
        cases e1 : M x i with
        | false =>
          walk_at "d"
          exact h1 rfl _ _ rfl (by rw [e1]; rfl)
        | true =>
          walk_at "d"
          refine ⟨_, atRR hi, _, atR hy, ?_⟩
          exact h1 rfl _ _ rfl (by rw [e1]; rfl)
      · refine ⟨(List.range n).map fun i => M x i && M i y, by rw [List.map_map, flt_true]; rfl, ?_⟩
        walk_at "d"
        exact q
end
end Z

set_option Elab.async false
set_option linter.all false
set_option maxRecDepth 100000
namespace Z
open PySem L2
variable [TabsP]
local macro_rules | `(tactic| walk_at "d") => `(tactic| simp only [dSq, dIf, dOr, dAnd, dNot, dTT, dTB, dUn, dBin, dVar, dC, dRet, dNext, dOrV, dAndV, dNotT, dIfE, isiD, OV.isOwn, startD, List.map_cons, List.map_nil, List.cons_append, List.nil_append, List.append_nil, List.length_cons, List.length_nil, List.replicate, Nat.reduceAdd, Nat.reduceSub, Nat.sub_self, Nat.add_sub_cancel,
  List.getElem?_cons_zero, List.getElem?_cons_succ, bOk, iv_d, iv_n, iv_v, nr_d, nr_n, List.any_cons, List.any_nil, Bool.or_false, Bool.or_true, Bool.false_eq_true, Bool.not_true, Bool.not_false, false_implies, true_and, and_true, if_true, if_false, ite_true, ite_false, forall_const, reduceIte, reduceCtorEq,
  d0_1, dI_1, ad_i, ad_t, ad_l, ng_1, dCa, dCall0, dFld, dLc2, dCons, dNil, dTup, dLst, dEq, dSeq, dRange, dEnum, dRg1, dRg2, dListRg, dTupRg, dSl, dONone, dOSome, dCall, mv_d, mv_n, mv_v, nn_n, nn_b, nn_i, nn_s, nn_l, nn_t, nn_x, nn_d, dSetF, dSetO, dDrop, dFor, dgName, dgTup, dgCons, dgNil, dRetN, dYes, it_1, pm_1, nmR, dXf, dIsE, sq_l, sq_t, sq_x, tr_n, tr_b, tr_i, tr_l, tr_t, tr_x, tr_d, vl_d, vl_n, vl_v, fr_d, fr_o, fr_k, sl_l, sl_t, sl_x, le_1, li_1, tu_1, tu_l, tu_t, tu_x, tx_1, tx_l, tx_t, tx_x, rr_d, rr_n, rr_v, in_1, ix_1, dt_1, isB_1, dCallT, dIdx, dRaise, dAsg, dDnew, List.set_cons_zero, List.set_cons_succ, noOwnAt, List.all_cons, List.all_nil, wipeE, lent, hasOwn, Option.map_some, Option.map_none, dLc, lt_n, pl_n, tyB_n, tyI_n, tyS_n, tyL_n, tyT_n, lt_b, pl_b, tyB_b, tyI_b, tyS_b, tyL_b, tyT_b, lt_i, pl_i, tyB_i, tyI_i, tyS_i, tyL_i, tyT_i, lt_s, pl_s, tyB_s, tyI_s, tyS_s, tyL_s, tyT_s, lt_l, pl_l, tyB_l, tyI_l, tyS_l, tyL_l, tyT_l, lt_t, pl_t, tyB_t, tyI_t, tyS_t, tyL_t, tyT_t, lt_x, pl_x, tyB_x, tyI_x, tyS_x, tyL_x, tyT_x, lt_d, pl_d, tyB_d, tyI_d, tyS_d, tyL_d, tyT_d, noL, noLA, Bool.and_true, Bool.true_and])
local macro_rules | `(tactic| walk_at "e") => `(tactic| first | exact ⟨_, rfl, rfl⟩ | rfl)
abbrev s_oi : Stmt := inClass (top 16) 0
section
variable {P : Program} {w : World} {K : PySem.W.Frag} {mg : Str → Option Value} {base : Heap}
theorem sc_oi : FnScope ["self", "n", "pairs", "less", "states", "low", "high", "state", "cover"] ["self", "n", "pairs"] (defScope s_oi) := ⟨rfl, rfl, rfl, by decide +kernel, rfl, by decide +kernel, by decide +kernel⟩
def ordNs : List Str := ["n", "_above", "_below", "_covers", "_ends", "edges"]
def stD (ns : List Nat) : D := .tup (nsD ns)
def cvL (n : Nat) (M : Nat → Nat → Bool) (x : Nat) : List Nat := (List.range n).filter (covB n M x)
def abvD (n : Nat) (M : Nat → Nat → Bool) : D := .tup ((List.range n).map fun x => stD ((List.range n).filter (M x)))
def blwD (n : Nat) (M : Nat → Nat → Bool) : D := .tup ((List.range n).map fun y => stD ((List.range n).filter fun x => M x y))
def cvsD (n : Nat) (M : Nat → Nat → Bool) : D := .tup ((List.range n).map fun x => stD (cvL n M x))
def endD (n : Nat) (M : Nat → Nat → Bool) : D := stD ((List.range n).filter fun x => (cvL n M x).isEmpty)
def edgD (n : Nat) (M : Nat → Nat → Bool) : D := .tup ((List.range n).flatMap fun x => (cvL n M x).map fun y => .tup [nD x, nD y])
def cvLs (n : Nat) (M : Nat → Nat → Bool) : List D := (List.range n).map fun x => stD (cvL n M x)
theorem sq_cvs (n : Nat) (M : Nat → Nat → Bool) : seqOfD (cvsD n M) = some (cvLs n M) := rfl
theorem at_cvs {n x : Nat} {M : Nat → Nat → Bool} (h : x < n) : atI (cvLs n M) (x : Int) = some (stD (cvL n M x)) := by
  refine L2.atI_nat ?_
  unfold cvLs
  rw [List.getElem?_map, List.getElem?_range h]
  rfl
/-- what an order holds -/
def ordDs (n : Nat) (M : Nat → Nat → Bool) : List D := [.int (n : Int), abvD n M, blwD n M, cvsD n M, endD n M, edgD n M]
theorem noO_st (ns : List Nat) : noO (stD ns) = true := noOA_ns ns
theorem noO_abv (n : Nat) (M : Nat → Nat → Bool) : noO (abvD n M) = true := noOA_map (f := fun x => stD ((List.range n).filter (M x))) (fun _ => noO_st _) _
theorem noO_blw (n : Nat) (M : Nat → Nat → Bool) : noO (blwD n M) = true := noOA_map (f := fun y => stD ((List.range n).filter fun x => M x y)) (fun _ => noO_st _) _
theorem noO_cvs (n : Nat) (M : Nat → Nat → Bool) : noO (cvsD n M) = true := noOA_map (f := fun x => stD (cvL n M x)) (fun _ => noO_st _) _
theorem noO_edg (n : Nat) (M : Nat → Nat → Bool) : noO (edgD n M) = true := by
  show noOA _ = true
  have : ∀ l : List Nat, noOA (l.flatMap fun x => (cvL n M x).map fun y => .tup [nD x, nD y]) = true := fun l => by
    induction l with
    | nil => rfl
    | cons x l ih =>
      rw [List.flatMap_cons]
      exact noOA_app (noOA_map (f := fun y => D.tup [nD x, nD y]) (fun _ => rfl) _) ih
  exact this _
def wOI : DWI := fun args Q _ => ∃ (n : Nat) (p : D) (ps : List D), args = [.int (n : Int), p] ∧ seqOfD p = some ps ∧ noO p = true ∧ PartsOk n ps ∧ SqOk n (closeM n (initM (ps.map prD)) n) ∧ Q (ordDs n (closeM n (initM (ps.map prD)) n))
theorem ok_oi {f C : Addr} {fd : FuncData} (F : Fun K "__init__" "Order.__init__" s_oi f fd) (T : Bl mg) (cl : Cls K C) (na : ∀ f ∈ ordNs, NoAttr K C f) (c_check_parts : Cal P w K mg base (L2.CX P w) "_check_parts" 3 (spD K wParts)) (c_closed : Cal P w K mg base CX0 "_closed" 1 (spD K wClosed)) (c_check_closed : Cal P w K mg base (L2.CX P w) "_check_closed" 3 (spD K wCC)) (c_is_cover : Cal P w K mg base CX0 "_is_cover" 1 (spD K wCov)) :
    FnOk P w K mg base (L2.CX P w) 4 f fd ["self", "n", "pairs"] (spI K C ordNs wOI) := by
  refine okI F sc_oi (fun ds Q ex h => ?_) (fun cdv A outer s H E hr md F0 a0 ex hl x dx xb => ⟨_, _,
      (dxp_cons (ds_expr (de_callT c_check_parts.v (hr.mono (by decide)) (by rfl) (takes_of rfl rfl rfl rfl) (lxt_fn hl) (fun _ => .nil) (da_cons (de_var (pv 1)) (da_cons (de_var (pv 2)) da_nil)))) (dxp_cons (ds_setF (i := 3) sc_oi.nd rfl (Or.inr rfl) (de_call c_closed (hr.mono (by decide)) (by rfl) (da_cons (de_var (pv 1)) (da_cons (de_var (pv 2)) da_nil)))) (dxp_cons (ds_expr (de_callT c_check_closed.v (hr.mono (by decide)) (by rfl) (takes_of rfl rfl rfl rfl) (lxt_fn hl) (fun _ => .nil) (da_cons (de_var (pv 3)) da_nil))) (dxp_cons (ds_setF (i := 4) sc_oi.nd rfl (Or.inr rfl) (de_listRg rfl (by rfl) T.n_list (drg_1 (by rfl) T.n_range (de_var (pv 1))))) (dxp_go xb (dxs_set (pv 0) (fun _ _ _ _ => (de_var (pv 1))) (dxs_set (pv 0) (fun _ _ _ _ => (de_callTy (ktuple_of K) cad_tuple (by rfl) T.n_tuple (by decide +kernel) (da_cons (de_lc (own := [("low", 5)]) rfl sc_oi.nd (di_seq K (de_var (pv 4))) (blkOk_by (own := [("low", 5)]) (by show blkC ["self", "n", "pairs", "less", "states", "low", "high", "state", "cover"] (defScope s_oi) _ _ = true; decide +kernel)) (fun _ _ _ _ _ _ _ _ => (dg_name (i := 5) sc_oi.nd rfl (Or.inr rfl))) (fun _ _ _ _ _ _ _ _ => dps_nil) (fun _ _ _ _ _ _ _ _ => (de_callTy (ktuple_of K) cad_tuple (by rfl) T.n_tuple (by decide +kernel) (da_cons (de_lc (own := [("high", 6)]) rfl sc_oi.nd (di_seq K (de_var (pv 4))) (blkOk_by (own := [("high", 6)]) (by show blkC ["self", "n", "pairs", "less", "states", "low", "high", "state", "cover"] (relS _ (defScope s_oi)) _ _ = true; decide +kernel)) (fun _ _ _ _ _ _ _ _ => (dg_name (i := 6) sc_oi.nd rfl (Or.inl rfl))) (fun _ _ _ _ _ _ _ _ => (dps_one (dt_truth K (de_ix (kix_seq K) opd_ix (de_ix (kix_seq K) opd_ix (de_var (pv 3)) (de_var (pv 5)) (fun _ _ => rfl)) (de_var (pv 6)) (fun _ _ => rfl))))) (fun _ _ _ _ _ _ _ _ => (de_var (pv 6))) (by decide) s) da_nil))) (by decide) s) da_nil))) (dxs_set (pv 0) (fun _ _ _ _ => (de_callTy (ktuple_of K) cad_tuple (by rfl) T.n_tuple (by decide +kernel) (da_cons (de_lc (own := [("high", 6)]) rfl sc_oi.nd (di_seq K (de_var (pv 4))) (blkOk_by (own := [("high", 6)]) (by show blkC ["self", "n", "pairs", "less", "states", "low", "high", "state", "cover"] (defScope s_oi) _ _ = true; decide +kernel)) (fun _ _ _ _ _ _ _ _ => (dg_name (i := 6) sc_oi.nd rfl (Or.inr rfl))) (fun _ _ _ _ _ _ _ _ => dps_nil) (fun _ _ _ _ _ _ _ _ => (de_callTy (ktuple_of K) cad_tuple (by rfl) T.n_tuple (by decide +kernel) (da_cons (de_lc (own := [("low", 5)]) rfl sc_oi.nd (di_seq K (de_var (pv 4))) (blkOk_by (own := [("low", 5)]) (by show blkC ["self", "n", "pairs", "less", "states", "low", "high", "state", "cover"] (relS _ (defScope s_oi)) _ _ = true; decide +kernel)) (fun _ _ _ _ _ _ _ _ => (dg_name (i := 5) sc_oi.nd rfl (Or.inl rfl))) (fun _ _ _ _ _ _ _ _ => (dps_one (dt_truth K (de_ix (kix_seq K) opd_ix (de_ix (kix_seq K) opd_ix (de_var (pv 3)) (de_var (pv 5)) (fun _ _ => rfl)) (de_var (pv 6)) (fun _ _ => rfl))))) (fun _ _ _ _ _ _ _ _ => (de_var (pv 5))) (by decide) s) da_nil))) (by decide) s) da_nil))) (dxs_set (pv 0) (fun _ _ _ _ => (de_callTy (ktuple_of K) cad_tuple (by rfl) T.n_tuple (by decide +kernel) (da_cons (de_lc (own := [("low", 5)]) rfl sc_oi.nd (di_seq K (de_var (pv 4))) (blkOk_by (own := [("low", 5)]) (by show blkC ["self", "n", "pairs", "less", "states", "low", "high", "state", "cover"] (defScope s_oi) _ _ = true; decide +kernel)) (fun _ _ _ _ _ _ _ _ => (dg_name (i := 5) sc_oi.nd rfl (Or.inr rfl))) (fun _ _ _ _ _ _ _ _ => dps_nil) (fun _ _ _ _ _ _ _ _ => (de_callTy (ktuple_of K) cad_tuple (by rfl) T.n_tuple (by decide +kernel) (da_cons (de_lc (own := [("high", 6)]) rfl sc_oi.nd (di_seq K (de_var (pv 4))) (blkOk_by (own := [("high", 6)]) (by show blkC ["self", "n", "pairs", "less", "states", "low", "high", "state", "cover"] (relS _ (defScope s_oi)) _ _ = true; decide +kernel)) (fun _ _ _ _ _ _ _ _ => (dg_name (i := 6) sc_oi.nd rfl (Or.inl rfl))) (fun _ _ _ _ _ _ _ _ => (dps_one (dt_truth K (de_call c_is_cover (hr.mono (by decide)) (by rfl) (da_cons (de_var (pv 3)) (da_cons (de_var (pv 5)) (da_cons (de_var (pv 6)) da_nil))))))) (fun _ _ _ _ _ _ _ _ => (de_var (pv 6))) (by decide) s) da_nil))) (by decide) s) da_nil))) (dxs_set (pv 0) (fun _ _ _ _ => (de_callTy (ktuple_of K) cad_tuple (by rfl) T.n_tuple (by decide +kernel) (da_cons (de_lc (own := [("state", 7)]) rfl sc_oi.nd (di_seq K (de_var (pv 4))) (blkOk_by (own := [("state", 7)]) (by show blkC ["self", "n", "pairs", "less", "states", "low", "high", "state", "cover"] (defScope s_oi) _ _ = true; decide +kernel)) (fun _ _ _ _ _ _ _ _ => (dg_name (i := 7) sc_oi.nd rfl (Or.inl rfl))) (fun _ _ _ _ _ _ _ _ => (dps_one (dt_not (dt_truth K (de_ix (kix_seq K) opd_ix (de_fld K (de_var (pv 0)) rfl) (de_var (pv 7)) (fun _ _ => rfl)))))) (fun _ _ _ _ _ _ _ _ => (de_var (pv 7))) (by decide) s) da_nil))) (dxs_set (pv 0) (fun _ _ _ _ => (de_callTy (ktuple_of K) cad_tuple (by rfl) T.n_tuple (by decide +kernel) (da_cons (de_lc2 (own := [("state", 7), ("cover", 8)]) (vs1 := [8]) rfl sc_oi.nd (di_seq K (de_var (pv 4))) (blkOk_by (own := [("state", 7), ("cover", 8)]) (by show blkC ["self", "n", "pairs", "less", "states", "low", "high", "state", "cover"] (defScope s_oi) _ _ = true; decide +kernel)) (by decide) (fun _ _ _ _ _ _ _ _ => (dg_name (i := 7) sc_oi.nd rfl (Or.inl rfl))) (fun _ _ _ _ _ _ _ _ => dps_nil) (fun _ _ _ _ _ _ _ _ => (di_seq K (de_ix (kix_seq K) opd_ix (de_fld K (de_var (pv 0)) rfl) (de_var (pv 7)) (fun _ _ => rfl)))) (fun _ _ _ _ _ _ _ _ => (dg_name (i := 8) sc_oi.nd rfl (Or.inl rfl))) (fun _ _ _ _ _ _ _ _ => dps_nil) (fun _ _ _ _ _ _ _ _ => (de_tup (da_cons (de_var (pv 7)) (da_cons (de_var (pv 8)) da_nil)))) (by decide) (by decide) s) da_nil))) dxs_nil rfl) rfl) rfl) rfl) rfl) rfl))))))
      , fun ds Q h => ?_⟩)
  · obtain ⟨_, _, _, rfl, _⟩ := h
    rfl
  · obtain ⟨n, p, ps, rfl, hs, np, ok, sq, q⟩ := h
    have n24 := ok.most
    have lx : n ≤ 2 ^ 24 := by omega
    walk_at "d"
    refine ⟨n, p, ps, rfl, hs, ok, ?_⟩
    walk_at "d"
    refine ⟨n, p, ps, rfl, ok.one, ok.most, hs, ok.cps, ?_⟩
    generalize closeM n (initM (ps.map prD)) n = M at sq q ⊢
    walk_at "d"
    refine ⟨n, M, rfl, sq, ?_⟩
    walk_at "d"
    rw [rgD_n]
    refine ⟨?_, ?_⟩
    · unfold RgOk
      omega
    have noR : noO (.lst (rowsD n M)) = true := noOA_map (f := fun x => D.lst (rowD n (M x))) (fun x => noOA_map (f := fun y => D.bl (M x y)) (fun y => rfl) _) _
    have noS : noO (.lst (nsD (List.range n))) = true := noOA_ns _
    have ok0 : ∀ d : D, okE [some (.dat d), some (.dat (.int (n : Int))), some (.dat p), some (.dat (.lst (rowsD n M))), some (.dat (.lst (nsD (List.range n)))), none, none, none, none] = true := fun d => by
      show (noO (.int (n : Int)) && (noO p && (noO (.lst (rowsD n M)) && (noO (.lst (nsD (List.range n))) && true)))) = true
      rw [np, noR, noS]
      rfl
    refine ⟨rfl, rfl, ok0 _, ?_⟩
    refine dxSet_of (.int (n : Int)) cl (na _ (by simp [ordNs])) (fun T h => h _ rfl rfl) rfl rfl (ok0 _) (by simp) (by decide) ?_
    refine dxSet_of (abvD n M) cl (na _ (by simp [ordNs])) (fun T h => ?_) rfl (noO_abv n M) (ok0 _) (by decide +kernel) (by decide) ?_
    · simp only [List.set_cons_zero] at h ⊢
      generalize D.obj C _ _ = d0 at h ⊢
      walk_at "d"
      refine dLc_ns (fun _ => true) (fun x => stD ((List.range n).filter (M x))) (by rw [List.length_range]; exact lx) (fun _ _ e => by cases e) (fun i hi T' C0 h1 _ => ?_) (by rw [flt_true]; exact h _ rfl rfl)
      have hi := List.mem_range.mp hi
      walk_at "d"
      refine dLc_ns (M i) nD (by rw [List.length_range]; exact lx) (fun _ _ e => by cases e) (fun j hj T2 C0 g1 g2 => ?_) (h1 rfl _ _ rfl rfl)
      have hj := List.mem_range.mp hj
      walk_at "d"
      refine ⟨_, atRR hi, _, atR hj, ?_⟩
      cases e : M i j with
      | false => exact g2 e
      | true => exact g1 e _ _ rfl rfl
    refine dxSet_of (blwD n M) cl (na _ (by simp [ordNs])) (fun T h => ?_) rfl (noO_blw n M) (ok0 _) (by decide +kernel) (by decide) ?_
    · simp only [List.set_cons_zero] at h ⊢
      generalize D.obj C _ _ = d0 at h ⊢
      walk_at "d"
      refine dLc_ns (fun _ => true) (fun y => stD ((List.range n).filter fun x => M x y)) (by rw [List.length_range]; exact lx) (fun _ _ e => by cases e) (fun i hi T' C0 h1 _ => ?_) (by rw [flt_true]; exact h _ rfl rfl)
      have hi := List.mem_range.mp hi
      walk_at "d"
      refine dLc_ns (fun x => M x i) nD (by rw [List.length_range]; exact lx) (fun _ _ e => by cases e) (fun j hj T2 C0 g1 g2 => ?_) (h1 rfl _ _ rfl rfl)
      have hj := List.mem_range.mp hj
      walk_at "d"
      refine ⟨_, atRR hj, _, atR hi, ?_⟩
      cases e : M j i with
      | false => exact g2 e
      | true => exact g1 e _ _ rfl rfl
    refine dxSet_of (cvsD n M) cl (na _ (by simp [ordNs])) (fun T h => ?_) rfl (noO_cvs n M) (ok0 _) (by decide +kernel) (by decide) ?_
    · simp only [List.set_cons_zero] at h ⊢
      generalize D.obj C _ _ = d0 at h ⊢
      walk_at "d"
      refine dLc_ns (fun _ => true) (fun x => stD (cvL n M x)) (by rw [List.length_range]; exact lx) (fun _ _ e => by cases e) (fun i hi T' C0 h1 _ => ?_) (by rw [flt_true]; exact h _ rfl rfl)
      have hi := List.mem_range.mp hi
      walk_at "d"
      refine dLc_ns (covB n M i) nD (by rw [List.length_range]; exact lx) (fun _ _ e => by cases e) (fun j hj T2 C0 g1 g2 => ?_) (h1 rfl _ _ rfl rfl)
      have hj := List.mem_range.mp hj
      walk_at "d"
      refine ⟨n, i, j, M, rfl, n24, hi, hj, ?_⟩
      walk_at "d"
      cases e : covB n M i j with
      | false => exact g2 e
      | true => exact g1 e _ _ rfl rfl
    refine dxSet_of (endD n M) cl (na _ (by simp [ordNs])) (fun T h => ?_) rfl (noO_st _) (ok0 _) (by decide +kernel) (by decide) ?_
    · simp only [List.set_cons_zero, List.nil_append, List.cons_append] at h ⊢
      walk_at "d"
      refine dLc_ns (fun x => (cvL n M x).isEmpty) nD (by rw [List.length_range]; exact lx) (fun _ _ e => by cases e) (fun i hi T' C0 h1 h2 => ?_) (h _ rfl rfl)
      have hi := List.mem_range.mp hi
      walk_at "d"
      refine ⟨C, _, _, _, rfl, cl, na _ (by simp [ordNs]), rfl, ?_⟩
      simp only [sq_cvs]
      refine ⟨_, at_cvs hi, ?_⟩
      rw [show truD (stD (cvL n M i)) = some (!(cvL n M i).isEmpty) from tru_st _]
      cases e : (cvL n M i).isEmpty with
      | true => exact h1 e _ _ rfl rfl
      | false => exact h2 e
    refine dxSet_of (edgD n M) cl (na _ (by simp [ordNs])) (fun T h => ?_) rfl (noO_edg n M) (ok0 _) (by decide +kernel) (by decide) ⟨rfl, q⟩
    · simp only [List.set_cons_zero, List.nil_append, List.cons_append] at h ⊢
      walk_at "d"
      refine dLc2L_ns (m := 1000) (fun x => (cvL n M x).map fun y => .tup [nD x, nD y]) _ _ ?_ (fun i hi acc R hz hR => ?_) (h _ rfl rfl)
      · have : ∀ l : List Nat, (l.flatMap fun x => (cvL n M x).map fun y => D.tup [nD x, nD y]).length ≤ 24 * l.length := fun l => by
          induction l with
          | nil => exact Nat.le_refl _
          | cons x l ih =>
            rw [List.flatMap_cons, List.length_append, List.length_map, List.length_cons]
            have : (cvL n M x).length ≤ 24 := Nat.le_trans (List.length_filter_le _ _) (by rw [List.length_range]; exact n24)
            omega
        have := this (List.range n)
        rw [List.length_range] at this
        rw [List.length_nil]
        omega
      · have hi := List.mem_range.mp hi
        walk_at "d"
        refine ⟨C, _, _, _, rfl, cl, na _ (by simp [ordNs]), rfl, ?_⟩
        simp only [sq_cvs]
        refine ⟨_, at_cvs hi, ?_⟩
        rw [show seqOfD (stD (cvL n M i)) = some (nsD (cvL n M i)) from rfl]
        refine dLc_nsA (fun _ => true) (fun y => .tup [nD i, nD y]) _ _ ?_ (fun _ _ e => by cases e) (fun j hj T2 C0 g1 _ => ?_) (by rw [flt_true]; exact hR)
        · rw [List.length_map] at hz
          omega
        · walk_at "d"
          exact ⟨by decide, g1 rfl _ _ rfl rfl⟩
end
end Z

set_option Elab.async false
set_option linter.all false
set_option maxRecDepth 100000
set_option maxHeartbeats 1200000
namespace Z
open PySem L2
variable [TabsP]
open PySem.Spec PyProof.Rows
/-! ### len, == and properties of own objects -/
section
variable {X : Cx} {CX : CXT} {C : Addr} {m : Str} {k : Nat} {sp : Sp} {e o : Expr} {es : List Expr} {ta : TE} {t : TA} {p pos apos : Pos}
/-- len(o) by an own __len__ -/
def rLenO (C : Addr) (sp : Sp) : List V → Hp → VK → Prop := fun xs H Q => ∃ (a dx : Addr) (fs : List (Str × V)), xs = [.ref a] ∧ H a = some (.ins C dx fs) ∧ sp [.ref a] H (fun v H' => ∃ n : Nat, v = .int n ∧ n < 1000 ∧ Q v H') E0
theorem call_lenO (c : CalM X.prog X.w X.K X.mg X.base CX0 C "__len__" k sp) (hr : Room (k + 1) X.A) : CallR X (.builtin "len") (rLenO C sp) := by
  intro pins s σ H xs us Q I r h
  obtain ⟨a, dx, fs, rfl, ea, q⟩ := h
  obtain ⟨u, rfl, rx⟩ := vals1 r
  cases rx
  obtain ⟨f, fd, ps, hm, hb, F⟩ := c.ex
  obtain ⟨mA, J, _⟩ := ins_get I.hok ea
  obtain ⟨od, J, _⟩ := J.look
  have hl := F.len _ _ _ _ q
  have e0 : Env0 X.prog X.w X.K X.mg X.base X.A.in1 X.stack s H := by
    have e := I.env0
    exact ⟨e.frames, e.mod, e.bs, e.bsz, e.funs, e.frf, e.hok, e.bare⟩
  refine Calls.call_function_entry PySem.kind_len PySem.plain_len PySem.entry_len (PySem.args_len1 _) ?_
  unfold Builtin.«len»
  refine wpAny_bind (m := oneArg "len" _) (wpAny_pure ?_)
  refine wpAny_bind (m := callSpecial? (.ref a) (Str.ofString "__len__")) (PySem.W.special_fn I.kIn J hm.at_ (beq_iff_eq.mp hm.fn) ?_)
  refine wpAny_call (codeAny_mono (F.run X.A.in1 X.stack s H ⟨[.ref a], []⟩ [.ref a] [.ref a] _ E0 hr.in1 e0 (by
    have := hb s [.ref a] I.kIn (by simpa using hl)
    simpa using this) (.cons rfl .nil) q) fun res s' hq => ?_)
  cases res with
  | error e => exact (pass0 pins σ H s e s' I hq)
  | ok fl =>
    cases fl with
    | ret w =>
      obtain ⟨z, H', I', rz, n, ez, hn, qz⟩ := I.after hq
      subst ez
      obtain ⟨tk, rfl⟩ := (show ∃ tk, w = Value.int (n : Int) tk from rz)
      refine wpAny_bind (wpAny_holding (wpAny_pure ?_))
      refine wpAny_bind (wpAny_letGo ?_)
      show wpAny _ _ (if (n : Int) < 0 then _ else _) _ _ _
      rw [if_neg (by omega)]
      show wpAny _ _ (if (n : Int) ≥ 2 ^ 63 then _ else _) _ _ _
      rw [if_neg (by omega)]
      refine wpAny_bind (wpAny_mkInt (wpAny_pure ?_))
      exact ⟨_, rfl, .int n, H', I'.tok _, ⟨_, rfl⟩, qz⟩
    | next => exact False.elim hq
    | brk => exact False.elim hq
    | cont => exact False.elim hq
/-- x == y by an own __eq__ -/
def rEqO (C : Addr) (sp : Sp) : R2 := fun x y H Q => ∃ (a b dx dy : Addr) (fs gs : List (Str × V)), x = .ref a ∧ y = .ref b ∧ H a = some (.ins C dx fs) ∧ H b = some (.ins C dy gs) ∧ sp [.ref a, .ref b] H (fun v H' => ∃ r : Bool, v = .bl r ∧ Q v H') E0
theorem op_eqO (c : CalM X.prog X.w X.K X.mg X.base CX0 C "__eq__" k sp) (hr : Room k X.A) : OpR X (compareOp .Eq) (rEqO C sp) := by
  intro pins s σ H x y v u Q I rx ry h
  obtain ⟨a, b, dx, dy, fs, gs, rfl, rfl, ea, eb, q⟩ := h
  cases rx
  cases ry
  obtain ⟨f, fd, ps, hm, hb, F⟩ := c.ex
  obtain ⟨mA, J, _⟩ := ins_get I.hok ea
  obtain ⟨mB, J', _⟩ := ins_get I.hok eb
  obtain ⟨od, J, _⟩ := J.look
  obtain ⟨od', J', _⟩ := J'.look
  obtain ⟨m, hF⟩ := I.fr
  have hl := F.len _ _ _ _ q
  show wpAny (model X.prog X.w) X.A (richCompare .Eq (.ref a) (.ref b)) (EP X pins σ Q) X.xe s
  refine PySem.W.cmp_K (op := .Eq) (tb := .ref C) hr.units0 hF I.ok.mod.kin J J'.type (by simp [PySem.W.notFirst]) hm.at_ hm.fn ?_
  refine wpAny_call (codeAny_mono (F.run X.A X.stack s H ⟨[.ref a, .ref b], []⟩ [.ref a, .ref b] [.ref a, .ref b] _ E0 hr I.env0 (by
    have := hb s [.ref a, .ref b] I.kIn (by simpa using hl)
    simpa using this) (.cons rfl (.cons rfl .nil)) q) fun r s' hq => ?_)
  cases r with
  | error e => exact (pass0 pins σ H s e s' I hq)
  | ok fl =>
    cases fl with
    | ret w =>
      obtain ⟨z, H', I', rz, r, ez, qz⟩  := I.after hq
      subst ez
      cases rz
      exact ⟨.bl r, H', I', rfl, qz⟩
    | next => exact False.elim hq
    | brk => exact False.elim hq
    | cont => exact False.elim hq
end
def dLenO (W : DW) (C : Addr) (ds : List D) (P : R → Prop) : Prop := ∃ (ns : List Str) (es : List D) (n : Nat), ds = [.obj C ns es] ∧ n < 1000 ∧ W [.obj C ns es] (fun r => bOk [] r ∧ r = .dat (.int n)) exF ∧ P (.dat (.int n))
def dEqO (W : DW) (C : Addr) (x y : D) (P : R → Prop) : Prop := ∃ (ns ms : List Str) (es fs : List D) (b : Bool), x = .obj C ns es ∧ y = .obj C ms fs ∧ W [x, y] (fun r => bOk [.dat y] r ∧ r = .dat (.bl b)) exF ∧ P (.dat (.bl b))
structure CalP (P : Program) (w : World) (K : PySem.W.Frag) (mg : Str → Option Value) (base : Heap) (CX : CXT) (C : Addr) (f : Str) (k : Nat) (sp : Sp) : Prop where
  ex : ∃ (p g : Addr) (fd : FuncData) (ps : List Str), PropOf K C f p g ∧ Binds K fd ps [] ∧ FnOk P w K mg base CX k g fd ps sp
def dProp (W : DW) (C : Addr) (f : Str) (te : DT) : DT := fun ρ P => te ρ fun r ρ1 => ∃ ns ds, r = .dat (.obj C ns ds) ∧ W [.obj C ns ds] (fun x => bOk [] x ∧ P x ρ1) exF
section
variable {X : Cx} {B : Bs} {C : Addr} {W : DW} {k : Nat} {o : Expr} {f : Str} {tE : TE} {te : DT} {pos : Pos}
theorem cad_lenO : CaD B (rLenO C (spD B.K W)) (dLenO W C) := by
  intro F ρ σ H xs ds P Q l a w kk
  obtain ⟨ns, es, n, rfl, hn, q, p⟩ := w
  obtain ⟨v, rfl, r⟩ := a.one
  cases r with
  | obj ea en ra =>
    refine ⟨_, _, _, rfl, l.sub _ _ ea, ?_⟩
    refine meth_go (vs := []) (rs := []) l (.obj ea en ra) .nil q fun r v F' H' l' s' rv e => ?_
    subst e
    cases rv
    exact ⟨n, rfl, hn, kk (.dat (.int n)) _ F' H' l' s' (.int _) p⟩
theorem opd_eqO : OpD B (rEqO C (spD B.K W)) (dEqO W C) := by
  intro F ρ σ H x y dx dy P Q l a b w kk
  obtain ⟨ns, ms, es, fs, bb, rfl, rfl, q, p⟩ := w
  cases a with
  | obj ea en ra =>
    have b' := b
    cases b with
    | obj eb em rb =>
      refine ⟨_, _, _, _, _, _, rfl, rfl, l.sub _ _ ea, l.sub _ _ eb, ?_⟩
      refine meth_go (vs := [_]) (rs := [.dat (.obj C ms fs)]) l (.obj ea en ra) (.cons b' .nil) q fun r v F' H' l' s' rv e => ?_
      subst e
      cases rv
      exact ⟨bb, rfl, kk (.dat (.bl bb)) _ F' H' l' s' (.bl _) p⟩
theorem de_prop {K : PySem.W.Frag} (c : CalP X.prog X.w X.K X.mg X.base CX0 C f k (spD K W)) (cl : Cls X.K C) (ho : DE X B o tE te) (hr : Room (k + 1) X.A) (hb : attributeBase o f X.env (eval o X.env) = eval o X.env) (hB : B.K = K := by rfl) :
    DE X B (.Attribute o f pos) (tProp C (spD K W) [] E0 tE) (dProp W C f te) := by
  subst hB
  obtain ⟨p, g, fd, ps, hp, hbd, FO⟩ := c.ex
  refine ⟨pe_prop ho.pe cl hp FO hr hbd .nil pass0 hb, fun F ρ σ H P Q l w kk => ho.sim F ρ σ H _ _ l w fun r v F' ρ' H' l' s kp rv p => ?_⟩
  obtain ⟨ns, ds, rfl, p⟩ := p
  cases rv with
  | obj ea en ra =>
    exact ⟨_, _, _, rfl, l'.sub _ _ ea, meth_go (vs := []) (rs := []) l' (.obj ea en ra) .nil p fun r v F3 H3 l3 s3 rv p => kk r v F3 ρ' H3 l3 (s.trans s3) kp rv p⟩
end
end Z

set_option Elab.async false
set_option linter.all false
set_option maxRecDepth 100000
namespace Z
open PySem L2
variable [TabsP]
local macro_rules | `(tactic| walk_at "d") => `(tactic| simp only [dSq, dIf, dOr, dAnd, dNot, dTT, dTB, dUn, dBin, dVar, dC, dRet, dNext, dOrV, dAndV, dNotT, dIfE, isiD, OV.isOwn, startD, List.map_cons, List.map_nil, List.cons_append, List.nil_append, List.append_nil, List.length_cons, List.length_nil, List.replicate, Nat.reduceAdd, Nat.reduceSub, Nat.sub_self, Nat.add_sub_cancel,
  List.getElem?_cons_zero, List.getElem?_cons_succ, bOk, iv_d, iv_n, iv_v, nr_d, nr_n, List.any_cons, List.any_nil, Bool.or_false, Bool.or_true, Bool.false_eq_true, Bool.not_true, Bool.not_false, false_implies, true_and, and_true, if_true, if_false, ite_true, ite_false, forall_const, reduceIte, reduceCtorEq,
  d0_1, dI_1, ad_i, ad_t, ad_l, ng_1, dCa, dCall0, dFld, dLc2, dCons, dNil, dTup, dLst, dEq, dSeq, dRange, dEnum, dRg1, dRg2, dListRg, dTupRg, dSl, dONone, dOSome, dCall, mv_d, mv_n, mv_v, nn_n, nn_b, nn_i, nn_s, nn_l, nn_t, nn_x, nn_d, dSetF, dSetO, dDrop, dFor, dgName, dgTup, dgCons, dgNil, dRetN, dYes, it_1, pm_1, nmR, dXf, dIsE, sq_l, sq_t, sq_x, tr_n, tr_b, tr_i, tr_l, tr_t, tr_x, tr_d, vl_d, vl_n, vl_v, fr_d, fr_o, fr_k, sl_l, sl_t, sl_x, le_1, li_1, tu_1, tu_l, tu_t, tu_x, tx_1, tx_l, tx_t, tx_x, rr_d, rr_n, rr_v, in_1, ix_1, dt_1, isB_1, dCallT, dIdx, dRaise, dAsg, dDnew, List.set_cons_zero, List.set_cons_succ, noOwnAt, List.all_cons, List.all_nil, wipeE, lent, hasOwn, Option.map_some, Option.map_none, dLc, lt_n, pl_n, tyB_n, tyI_n, tyS_n, tyL_n, tyT_n, lt_b, pl_b, tyB_b, tyI_b, tyS_b, tyL_b, tyT_b, lt_i, pl_i, tyB_i, tyI_i, tyS_i, tyL_i, tyT_i, lt_s, pl_s, tyB_s, tyI_s, tyS_s, tyL_s, tyT_s, lt_l, pl_l, tyB_l, tyI_l, tyS_l, tyL_l, tyT_l, lt_t, pl_t, tyB_t, tyI_t, tyS_t, tyL_t, tyT_t, lt_x, pl_x, tyB_x, tyI_x, tyS_x, tyL_x, tyT_x, lt_d, pl_d, tyB_d, tyI_d, tyS_d, tyL_d, tyT_d, noL, noLA, Bool.and_true, Bool.true_and])
local macro_rules | `(tactic| walk_at "e") => `(tactic| first | exact ⟨_, rfl, rfl⟩ | rfl)
abbrev s_ocv : Stmt := inClass (top 16) 5
abbrev s_oab : Stmt := inClass (top 16) 6
abbrev s_obl : Stmt := inClass (top 16) 7
abbrev s_oam : Stmt := inClass (top 16) 4
abbrev s_oln : Stmt := inClass (top 16) 1
section
variable {P : Program} {w : World} {K : PySem.W.Frag} {mg : Str → Option Value} {base : Heap}
theorem sc_ocv : FnScope ["self", "state"] ["self", "state"] (defScope s_ocv) := ⟨rfl, rfl, rfl, by decide +kernel, rfl, by decide +kernel, by decide +kernel⟩
theorem sc_oab : FnScope ["self", "state"] ["self", "state"] (defScope s_oab) := ⟨rfl, rfl, rfl, by decide +kernel, rfl, by decide +kernel, by decide +kernel⟩
theorem sc_obl : FnScope ["self", "state"] ["self", "state"] (defScope s_obl) := ⟨rfl, rfl, rfl, by decide +kernel, rfl, by decide +kernel, by decide +kernel⟩
theorem sc_oam : FnScope ["self", "one", "other"] ["self", "one", "other"] (defScope s_oam) := ⟨rfl, rfl, rfl, by decide +kernel, rfl, by decide +kernel, by decide +kernel⟩
theorem sc_oln : FnScope ["self"] ["self"] (defScope s_oln) := ⟨rfl, rfl, rfl, by decide +kernel, rfl, by decide +kernel, by decide +kernel⟩
/-- an order as a value -/
def ordV (C : Addr) (n : Nat) (M : Nat → Nat → Bool) : D := .obj C ordNs (ordDs n M)
def wSt (C : Addr) (f : Nat → (Nat → Nat → Bool) → Nat → List Nat) : DW := fun ds Q _ => ∃ (n x : Nat) (M : Nat → Nat → Bool), ds = [ordV C n M, .int (x : Int)] ∧ x < n ∧ Q (.dat (stD (f n M x)))
def abL (n : Nat) (M : Nat → Nat → Bool) (x : Nat) : List Nat := (List.range n).filter (M x)
def blL (n : Nat) (M : Nat → Nat → Bool) (y : Nat) : List Nat := (List.range n).filter fun x => M x y
def enL (n : Nat) (M : Nat → Nat → Bool) : List Nat := (List.range n).filter fun x => (cvL n M x).isEmpty
theorem at_abv {n x : Nat} {M : Nat → Nat → Bool} (h : x < n) : atI ((List.range n).map fun x => stD ((List.range n).filter (M x))) (x : Int) = some (stD (abL n M x)) := by
  refine L2.atI_nat ?_
  rw [List.getElem?_map, List.getElem?_range h]
  rfl
theorem at_blw {n x : Nat} {M : Nat → Nat → Bool} (h : x < n) : atI ((List.range n).map fun y => stD ((List.range n).filter fun x => M x y)) (x : Int) = some (stD (blL n M x)) := by
  refine L2.atI_nat ?_
  rw [List.getElem?_map, List.getElem?_range h]
  rfl
theorem ok_ocv {C f : Addr} {fd : FuncData} (F : Fun K "covers" "Order.covers" s_ocv f fd) (T : Bl mg) (cl : Cls K C) (na : ∀ f ∈ ordNs, NoAttr K C f) : FnOk P w K mg base CX0 1 f fd ["self", "state"] (spD K (wSt C cvL)) := by
  refine okD F sc_ocv (fun ds Q ex h => ?_) (fun cdv A outer s H E hr md F0 a0 => ⟨_, _,
      (dss_one (ds_ret (de_ix (kix_seq K) opd_ix (de_fld K (de_var (pv 0)) rfl) (de_var (pv 1)) (fun _ _ => rfl))))
      , fun ds Q ex h => ?_⟩)
  · obtain ⟨_, _, _, rfl, _⟩ := h
    rfl
  · obtain ⟨n, x, M, rfl, hx, q⟩ := h
    unfold ordV
    walk_at "d"
    refine ⟨C, _, _, _, rfl, cl, na _ (by simp [ordNs]), rfl, ?_⟩
    simp only [sq_cvs]
    exact ⟨_, at_cvs hx, q⟩
theorem ok_oab {C f : Addr} {fd : FuncData} (F : Fun K "above" "Order.above" s_oab f fd) (T : Bl mg) (cl : Cls K C) (na : ∀ f ∈ ordNs, NoAttr K C f) : FnOk P w K mg base CX0 1 f fd ["self", "state"] (spD K (wSt C abL)) := by
  refine okD F sc_oab (fun ds Q ex h => ?_) (fun cdv A outer s H E hr md F0 a0 => ⟨_, _,
      (dss_one (ds_ret (de_ix (kix_seq K) opd_ix (de_fld K (de_var (pv 0)) rfl) (de_var (pv 1)) (fun _ _ => rfl))))
      , fun ds Q ex h => ?_⟩)
  · obtain ⟨_, _, _, rfl, _⟩ := h
    rfl
  · obtain ⟨n, x, M, rfl, hx, q⟩ := h
    unfold ordV
    walk_at "d"
    refine ⟨C, _, _, _, rfl, cl, na _ (by simp [ordNs]), rfl, ?_⟩
    rw [show seqOfD (abvD n M) = some ((List.range n).map fun x => stD ((List.range n).filter (M x))) from rfl]
    exact ⟨_, at_abv hx, q⟩
theorem ok_obl {C f : Addr} {fd : FuncData} (F : Fun K "below" "Order.below" s_obl f fd) (T : Bl mg) (cl : Cls K C) (na : ∀ f ∈ ordNs, NoAttr K C f) : FnOk P w K mg base CX0 1 f fd ["self", "state"] (spD K (wSt C blL)) := by
  refine okD F sc_obl (fun ds Q ex h => ?_) (fun cdv A outer s H E hr md F0 a0 => ⟨_, _,
      (dss_one (ds_ret (de_ix (kix_seq K) opd_ix (de_fld K (de_var (pv 0)) rfl) (de_var (pv 1)) (fun _ _ => rfl))))
      , fun ds Q ex h => ?_⟩)
  · obtain ⟨_, _, _, rfl, _⟩ := h
    rfl
  · obtain ⟨n, x, M, rfl, hx, q⟩ := h
    unfold ordV
    walk_at "d"
    refine ⟨C, _, _, _, rfl, cl, na _ (by simp [ordNs]), rfl, ?_⟩
    rw [show seqOfD (blwD n M) = some ((List.range n).map fun y => stD ((List.range n).filter fun x => M x y)) from rfl]
    exact ⟨_, at_blw hx, q⟩
def wOLen (C : Addr) : DW := fun ds Q _ => ∃ (n : Nat) (M : Nat → Nat → Bool), ds = [ordV C n M] ∧ Q (.dat (.int (n : Int)))
theorem ok_oln {C f : Addr} {fd : FuncData} (F : Fun K "__len__" "Order.__len__" s_oln f fd) (T : Bl mg) (cl : Cls K C) (na : ∀ f ∈ ordNs, NoAttr K C f) : FnOk P w K mg base CX0 1 f fd ["self"] (spD K (wOLen C)) := by
  refine okD F sc_oln (fun ds Q ex h => ?_) (fun cdv A outer s H E hr md F0 a0 => ⟨_, _,
      (dss_one (ds_ret (de_callB (klen K) cad_len (by rfl) T.n_len PySem.boot_len (da_cons (de_fld K (de_var (pv 0)) rfl) da_nil))))
      , fun ds Q ex h => ?_⟩)
  · obtain ⟨_, _, rfl, _⟩ := h
    rfl
  · obtain ⟨n, M, rfl, q⟩ := h
    unfold ordV
    walk_at "d"
    refine ⟨C, _, _, _, rfl, cl, na _ (by simp [ordNs]), rfl, ?_⟩
    simp only [sq_cvs]
    rw [show (cvLs n M).length = n by unfold cvLs; simp]
    exact q
def wOAm (C : Addr) : DW := fun ds Q _ => ∃ (n x y : Nat) (M : Nat → Nat → Bool), ds = [ordV C n M, .int (x : Int), .int (y : Int)] ∧ x < n ∧ y < n ∧ Q (.dat (.bl (x == y || M x y)))
theorem ok_oam {C f : Addr} {fd : FuncData} (F : Fun K "at_most" "Order.at_most" s_oam f fd) (T : Bl mg) (cl : Cls K C) (na : ∀ f ∈ ordNs, NoAttr K C f) : FnOk P w K mg base CX0 1 f fd ["self", "one", "other"] (spD K (wOAm C)) := by
  refine okD F sc_oam (fun ds Q ex h => ?_) (fun cdv A outer s H E hr md F0 a0 => ⟨_, _,
      (dss_one (ds_ret (de_or (de_cmp (keqD K hr.units) opd_eq (de_var (pv 1)) (de_var (pv 2)) (nomark _)) (de_one (de_cmp (kin_seq K) opd_in (de_var (pv 2)) (de_ix (kix_seq K) opd_ix (de_fld K (de_var (pv 0)) rfl) (de_var (pv 1)) (fun _ _ => rfl)) (by rfl))))))
      , fun ds Q ex h => ?_⟩)
  · obtain ⟨_, _, _, _, rfl, _⟩ := h
    rfl
  · obtain ⟨n, x, y, M, rfl, hx, hy, q⟩ := h
    unfold ordV
    walk_at "d"
    refine ⟨rfl, rfl, ?_⟩
    rw [eqN]
    cases e : x == y with
    | true =>
      rw [e] at q
      exact ite_t rfl q
    | false =>
      rw [e] at q
      refine ite_f (by simp) ⟨C, _, _, _, rfl, cl, na _ (by simp [ordNs]), rfl, ?_⟩
      rw [show seqOfD (abvD n M) = some ((List.range n).map fun x => stD ((List.range n).filter (M x))) from rfl]
      refine ⟨_, at_abv hx, ?_⟩
      rw [show seqOfD (stD (abL n M x)) = some (nsD (abL n M x)) from rfl]
      refine ⟨rfl, flatA_ns _, ?_⟩
      rw [in_ns, show decide (y ∈ abL n M x) = M x y by
        rw [Bool.eq_iff_iff, decide_eq_true_eq]
        unfold abL
        rw [List.mem_filter, List.mem_range]
        exact ⟨fun h => h.2, fun h => ⟨hy, h⟩⟩]
      exact q
end
end Z

set_option Elab.async false
set_option linter.all false
set_option maxRecDepth 100000
namespace Z
open PySem L2
/-- the numbers below n that p keeps -/
def fl (n : Nat) (p : Nat → Bool) : List Nat := (List.range n).filter p
def natsV (l : List Nat) : List V := l.map fun (y : Nat) => V.int (y : Int)
theorem natsV_len {l : List Nat} : (natsV l).length = l.length := by simp [natsV]
theorem natsV_get {l : List Nat} {i y : Nat} (h : l[i]? = some y) : (natsV l)[i]? = some (.int (y : Int)) := by simp [natsV, h]
theorem natsV_range {n i : Nat} {x : V} (h : (natsV (List.range n))[i]? = some x) : i < n ∧ x = .int (i : Int) := by
  unfold natsV at h
  rw [List.getElem?_map] at h
  by_cases hi : i < n
  · rw [List.getElem?_range hi] at h
    exact ⟨hi, (Option.some.inj h).symm⟩
  · rw [List.getElem?_eq_none (by simpa using hi)] at h
    cases h
theorem ints_range' {n i : Nat} {x : V} (h : (natsV (List.range n))[i]? = some x) : i < n ∧ x = .int (i : Int) := natsV_range h
theorem fl_le {n : Nat} {p : Nat → Bool} : (fl n p).length ≤ n := by
  have h := List.length_filter_le p (List.range n)
  rw [List.length_range] at h
  exact h
theorem fl_succ {n : Nat} {p : Nat → Bool} : fl (n + 1) p = if p n then fl n p ++ [n] else fl n p := by
  unfold fl
  rw [List.range_succ, List.filter_append]
  by_cases h : p n = true
  · rw [if_pos h, List.filter_cons_of_pos h, List.filter_nil]
  · rw [if_neg h, List.filter_cons_of_neg h, List.filter_nil, List.append_nil]
theorem natsV_snoc {l : List Nat} {y : Nat} : natsV l ++ [.int (y : Int)] = natsV (l ++ [y]) := by simp [natsV]
theorem if_true_of' {A B : Prop} (h : A) : if true = true then A else B := by
  rw [if_pos rfl]
  exact h
section
variable {K : PySem.W.Frag} {st D : Addr} {n i : Nat} {vs : List Nat} {σ : L2.St} {H1 : Hp} {Qd : Hp → Prop}
/-- [y for y in states if t(y)]: the test may make objects -/
theorem lc_filt {tt : TT} {p : Nat → Bool} (hn : n ≤ 600) (hst : SqL K H1 st (natsV (List.range n))) (hD : H1 D = none)
    (hw : ∀ y, wipe ((wipe σ vs).set i (some y)) vs = wipe σ vs) (hi : ((wipe σ vs).set i (some V.non))[i]? = some (some V.non))
    (ht : ∀ y H' Qb, y < n → Same H1 H' → (∀ H2, Same H' H2 → Qb (p y) H2) → tt ((wipe σ vs).set i (some (.int (y : Nat)))) H' Qb)
    (hd : ∀ H', Same H1 H' → H' D = some (.lst (natsV (fl n p))) → Qd H') :
    ∃ W : Nat → Nat → Hp → Prop, (∃ m, W 0 m (upd H1 D (.lst []))) ∧ ∀ j m H, W j m H →
      ((Itl K st).stop j H ∧ Qd H) ∨ ((Itl K st).go j H ∧ ∃ Nx : Hp → Prop, (∀ H', Nx H' → ∃ m', m' < m ∧ W (j + 1) m' H') ∧ ∀ x H', (Itl K st).yld j H x H' → gName i x (wipe σ vs) H' fun σ2 H2 => wipe σ2 vs = wipe σ vs ∧ tt σ2 H2 fun b H3 =>
        if b = true then tVar i σ2 H3 fun y H4 => ∃ acc, H4 D = some (.lst acc) ∧ acc.length < sizeLine ∧ Nx (upd H4 D (.lst (acc ++ [y]))) else Nx H3) := by
  have hil : i < (wipe σ vs).length := by
    by_cases h : i < (wipe σ vs).length
    · exact h
    · rw [List.getElem?_eq_none (by rw [List.length_set]; omega)] at hi
      cases hi
  refine lc_list (K := K) (a := st) (xs := natsV (List.range n)) (fun j H' => Same H1 H' ∧ H' D = some (.lst (natsV (fl j p)))) ⟨same_new hD, upd_same⟩ (fun j H' _ q => q.1.seq hst) ?_ ?_
  · rintro j x H' hx ⟨s1, e1⟩
    obtain ⟨hj, rfl⟩ := natsV_range hx
    refine ⟨hw _, ht j H' _ hj s1 fun H2 s2 => ?_⟩
    have e2 := s2 _ _ e1
    by_cases c : p j = true
    · rw [if_pos c]
      refine ⟨_, List.getElem?_set_self hil, _, e2, small1000 (by rw [natsV_len]; have := fl_le (n := j) (p := p); omega), same_mut (s1.trans s2) hD, ?_⟩
      rw [upd_same, natsV_snoc, fl_succ, if_pos c]
    · rw [if_neg c]
      refine ⟨s1.trans s2, ?_⟩
      rw [e2, fl_succ, if_neg c]
  · rintro H' ⟨s1, e1⟩
    have ln : (natsV (List.range n)).length = n := by rw [natsV_len, List.length_range]
    rw [ln] at e1
    exact hd H' s1 e1
/-- tuples of numbers at the places rs -/
def TupsAt (H : Hp) (rs : List Addr) (f : Nat → List Nat) : Prop := ∀ x r, rs[x]? = some r → H r = some (.tup (natsV (f x)))
theorem TupsAt.same {H H' : Hp} {rs : List Addr} {f : Nat → List Nat} (t : TupsAt H rs f) (s : Same H H') : TupsAt H' rs f := fun x r e => s _ _ (t x r e)
/-- [tuple(..) for x in states] -/
theorem lc_tups {te : TE} {f : Nat → List Nat} (hn : n ≤ 600) (hst : SqL K H1 st (natsV (List.range n))) (hD : H1 D = none)
    (hw : ∀ y, wipe ((wipe σ vs).set i (some y)) vs = wipe σ vs)
    (he : ∀ x H' Q, x < n → Same H1 H' → (∀ r H2, Same H' H2 → H' r = none → H2 r = some (.tup (natsV (f x))) → Q (.ref r) H2) → te ((wipe σ vs).set i (some (.int (x : Nat)))) H' Q)
    (hd : ∀ rs H', Same H1 H' → rs.length = n → H' D = some (.lst (rs.map V.ref)) → TupsAt H' rs f → Qd H') :
    ∃ W : Nat → Nat → Hp → Prop, (∃ m, W 0 m (upd H1 D (.lst []))) ∧ ∀ j m H, W j m H →
      ((Itl K st).stop j H ∧ Qd H) ∨ ((Itl K st).go j H ∧ ∃ Nx : Hp → Prop, (∀ H', Nx H' → ∃ m', m' < m ∧ W (j + 1) m' H') ∧ ∀ x H', (Itl K st).yld j H x H' → gName i x (wipe σ vs) H' fun σ2 H2 => wipe σ2 vs = wipe σ vs ∧ tYes σ2 H2 fun b H3 =>
        if b = true then te σ2 H3 fun y H4 => ∃ acc, H4 D = some (.lst acc) ∧ acc.length < sizeLine ∧ Nx (upd H4 D (.lst (acc ++ [y]))) else Nx H3) := by
  refine lc_list (K := K) (a := st) (xs := natsV (List.range n)) (fun j H' => ∃ rs : List Addr, Same H1 H' ∧ rs.length = j ∧ H' D = some (.lst (rs.map V.ref)) ∧ TupsAt H' rs f) ⟨[], same_new hD, rfl, upd_same, fun x r e => by simp at e⟩ (fun j H' _ q => by
    obtain ⟨rs, s1, _⟩ := q
    exact s1.seq hst) ?_ ?_
  · rintro j x H' hx ⟨rs, s1, el, e1, t1⟩
    obtain ⟨hj, rfl⟩ := natsV_range hx
    refine ⟨hw _, ?_⟩
    refine he j H' _ hj s1 fun r H2 s2 hr e2 => ⟨rs.map V.ref, s2 _ _ e1, small1000 (by rw [List.length_map]; omega), rs ++ [r], same_mut (s1.trans s2) hD, by simp [el], ?_, ?_⟩
    · rw [upd_same, List.map_append]
      rfl
    · intro x r' e
      have nD : r' ≠ D := by
        rintro rfl
        by_cases hx : x < rs.length
        · rw [List.getElem?_append_left hx] at e
          have q := t1 x _ e
          rw [e1] at q
          cases q
        · rw [List.getElem?_append_right (by omega)] at e
          cases hz : x - rs.length with
          | zero =>
            rw [hz] at e
            cases e
            rw [s2 _ _ e1] at e2
            cases e2
          | succ z =>
            rw [hz] at e
            simp at e
      rw [upd_ne nD]
      by_cases hx : x < rs.length
      · rw [List.getElem?_append_left hx] at e
        exact s2 _ _ (t1 x _ e)
      · rw [List.getElem?_append_right (by omega)] at e
        cases hz : x - rs.length with
        | zero =>
          rw [hz] at e
          cases e
          have ex : x = j := by omega
          rw [ex]
          exact e2
        | succ z =>
          rw [hz] at e
          simp at e
  · rintro H' ⟨rs, s1, el, e1, t1⟩
    have ln : (natsV (List.range n)).length = n := by rw [natsV_len, List.length_range]
    rw [ln] at el
    exact hd rs H' s1 el e1 t1
end
section
variable {K : PySem.W.Frag} {st : Addr} {n i j : Nat} {vi vj : List Nat} {σ : L2.St} {H1 : Hp} {Q : VK}
/-- tuple([tuple([y for y in states if t(x, y)]) for x in states]) -/
theorem te_tups {tt : TT} {p : Nat → Nat → Bool} (hn : n ≤ 600) (hst : SqL K H1 st (natsV (List.range n))) (e4 : σ[4]? = some (some (.ref st)))
    (w1 : ∀ y, wipe ((wipe σ vi).set i (some y)) vi = wipe σ vi)
    (w2 : ∀ x y, wipe ((wipe ((wipe σ vi).set i (some x)) vj).set j (some y)) vj = wipe ((wipe σ vi).set i (some x)) vj)
    (w3 : ∀ x, ((wipe σ vi).set i (some x))[4]? = some (some (.ref st)))
    (w4 : ∀ x, ((wipe ((wipe σ vi).set i (some x)) vj).set j (some V.non))[j]? = some (some V.non))
    (ht : ∀ x y H' Qb, x < n → y < n → Same H1 H' → (∀ H2, Same H' H2 → Qb (p x y) H2) → tt ((wipe ((wipe σ vi).set i (some (.int (x : Nat)))) vj).set j (some (.int (y : Nat)))) H' Qb)
    (k : ∀ P rs H', Same H1 H' → H1 P = none → rs.length = n → H' P = some (.tup (rs.map V.ref)) → TupsAt H' rs (fun x => fl n (p x)) → Q (.ref P) H') :
    tCB (rTupQ K) (tCons (tLc (iList K (tVar 4)) (gName i) tYes (tCB (rTupQ K) (tCons (tLc (iList K (tVar 4)) (gName j) tt (tVar j) vj) tNil)) vi) tNil) σ H1 Q := by
  refine ⟨_, e4, st, rfl, ⟨_, hst⟩, fun D hD => lc_tups (n := n) (f := fun x => fl n (p x)) hn hst hD w1 (fun x H' Q' hx s1 k' => ?_) fun rs H' s1 el e1 t1 => ?_⟩
  · refine ⟨_, w3 _, st, rfl, ⟨_, s1.seq hst⟩, fun D2 hD2 => lc_filt (n := n) (p := p x) hn (s1.seq hst) hD2 (w2 _) (w4 _) (fun y H2 Qb hy s2 q => ht x y H2 Qb hx hy (s1.trans s2) q) fun H2 s2 e2 => ?_⟩
    exact ⟨D2, _, rfl, .inl ⟨SqL.of e2, fun l hl => k' l _ (s2.trans (same_new hl)) (s2.free hl) upd_same⟩⟩
  · refine ⟨D, _, rfl, .inl ⟨SqL.of e1, fun l hl => k l rs _ (s1.trans (same_new hl)) (s1.free hl) el upd_same (t1.same (same_new hl))⟩⟩
/-- tuple([y for y in states if t(y)]) -/
theorem te_filt {tt : TT} {p : Nat → Bool} (hn : n ≤ 600) (hst : SqL K H1 st (natsV (List.range n))) (e4 : σ[4]? = some (some (.ref st)))
    (w2 : ∀ y, wipe ((wipe σ vj).set j (some y)) vj = wipe σ vj) (w4 : ((wipe σ vj).set j (some V.non))[j]? = some (some V.non))
    (ht : ∀ y H' Qb, y < n → Same H1 H' → (∀ H2, Same H' H2 → Qb (p y) H2) → tt ((wipe σ vj).set j (some (.int (y : Nat)))) H' Qb)
    (k : ∀ P H', Same H1 H' → H1 P = none → H' P = some (.tup (natsV (fl n p))) → Q (.ref P) H') :
    tCB (rTupQ K) (tCons (tLc (iList K (tVar 4)) (gName j) tt (tVar j) vj) tNil) σ H1 Q := by
  refine ⟨_, e4, st, rfl, ⟨_, hst⟩, fun D2 hD2 => lc_filt (n := n) (p := p) hn hst hD2 w2 w4 ht fun H2 s2 e2 => ?_⟩
  exact ⟨D2, _, rfl, .inl ⟨SqL.of e2, fun l hl => k l _ (s2.trans (same_new hl)) (s2.free hl) upd_same⟩⟩
end
/-! ### the attributes of an order -/
theorem putF_len (f : Str) (v : V) : ∀ fs : List (Str × V), (putF f v fs).length ≤ fs.length + 1
  | [] => Nat.le_refl _
  | (g, x) :: r => by
    show (if g = f then (g, v) :: r else (g, x) :: putF f v r).length ≤ _
    by_cases h : g = f
    · rw [if_pos h]
      simp
    · rw [if_neg h]
      have := putF_len f v r
      simp only [List.length_cons]
      omega
def oF (n : Nat) (pa pb pc pe pd : Addr) : List (Str × V) := putF "edges" (.ref pd) (putF "_ends" (.ref pe) (putF "_covers" (.ref pc) (putF "_below" (.ref pb) (putF "_above" (.ref pa) (putF "n" (.int (n : Int)) [])))))
theorem lkN {f g : Str} {v : V} {fs : List (Str × V)} {o : Option V} (h : ¬ g = f) (e : fs.lookup g = o) : (putF f v fs).lookup g = o := by
  rw [lookup_putF, if_neg h]
  exact e
theorem lkY {f : Str} {v : V} {fs : List (Str × V)} : (putF f v fs).lookup f = some v := by
  rw [lookup_putF, if_pos rfl]
def edgesL (n : Nat) (c : Nat → Nat → Bool) : List (Nat × Nat) := (List.range n).flatMap fun s => (fl n (c s)).map fun t => (s, t)
/-- pairs of numbers at the places rs -/
def PairsAt (H : Hp) (rs : List Addr) (l : List (Nat × Nat)) : Prop := rs.length = l.length ∧ ∀ (i : Nat) (r : Addr) (q : Nat × Nat), rs[i]? = some r → l[i]? = some q → H r = some (.tup [.int (q.1 : Int), .int (q.2 : Int)])
theorem PairsAt.same {H H' : Hp} {rs : List Addr} {l : List (Nat × Nat)} (t : PairsAt H rs l) (s : Same H H') : PairsAt H' rs l := ⟨t.1, fun i r q a b => s _ _ (t.2 i r q a b)⟩
theorem PairsAt.nil {H : Hp} : PairsAt H [] [] := ⟨rfl, fun i r q e => by simp at e⟩
theorem PairsAt.snoc {H : Hp} {rs : List Addr} {l : List (Nat × Nat)} {r : Addr} {a b : Nat} (t : PairsAt H rs l) (h : H r = some (.tup [.int (a : Int), .int (b : Int)])) : PairsAt H (rs ++ [r]) (l ++ [(a, b)]) := by
  refine ⟨by simp [t.1], fun i r' q e1 e2 => ?_⟩
  by_cases hi : i < rs.length
  · rw [List.getElem?_append_left hi] at e1
    rw [List.getElem?_append_left (by rw [← t.1]; exact hi)] at e2
    exact t.2 i r' q e1 e2
  · rw [List.getElem?_append_right (by omega)] at e1
    rw [List.getElem?_append_right (by rw [← t.1]; omega)] at e2
    rw [t.1] at e1
    cases hz : i - l.length with
    | zero =>
      rw [hz] at e1 e2
      cases e1
      cases e2
      exact h
    | succ z =>
      rw [hz] at e1
      simp at e1
structure OrdF (H : Hp) (o C dx : Addr) (n : Nat) (M c : Nat → Nat → Bool) : Prop where
  ex : ∃ (pa pb pc pe pd : Addr) (ra rb rc rd : List Addr), H o = some (.ins C dx (oF n pa pb pc pe pd)) ∧
    (H pa = some (.tup (ra.map V.ref)) ∧ ra.length = n ∧ TupsAt H ra fun x => fl n (M x)) ∧
    (H pb = some (.tup (rb.map V.ref)) ∧ rb.length = n ∧ TupsAt H rb fun y => fl n fun x => M x y) ∧
    (H pc = some (.tup (rc.map V.ref)) ∧ rc.length = n ∧ TupsAt H rc fun x => fl n (c x)) ∧
    H pe = some (.tup (natsV (fl n fun s => (fl n (c s)).isEmpty))) ∧
    (H pd = some (.tup (rd.map V.ref)) ∧ PairsAt H rd (edgesL n c))
theorem rg_nats (m : Nat) : rgV 0 (m : Int) = natsV (List.range m) := by
  unfold rgV natsV
  have e : ((m : Int) - 0).toNat = m := by omega
  rw [e]
  refine List.map_congr_left fun i _ => ?_
  rw [Int.zero_add]
section
variable {H H' : Hp} {o C dx : Addr} {fs : List (Str × V)}
theorem keep_tup {r : Addr} {xs : List V} (kp : Keep o H H') (ho : H o = some (.ins C dx fs)) (h : H r = some (.tup xs)) : H' r = some (.tup xs) := kp r _ h (ne_of h ho (by intro z; cases z))
theorem keep_lst {r : Addr} {xs : List V} (kp : Keep o H H') (ho : H o = some (.ins C dx fs)) (h : H r = some (.lst xs)) : H' r = some (.lst xs) := kp r _ h (ne_of h ho (by intro z; cases z))
theorem MatAt.keep {p : Addr} {n : Nat} {M : Nat → Nat → Bool} {rs : List Addr} (m : MatAt H p n M rs) (kp : Keep o H H') (ho : H o = some (.ins C dx fs)) : MatAt H' p n M rs :=
  ⟨keep_lst kp ho m.top, m.len, fun x r e => keep_lst kp ho (m.row x r e), m.nd, m.np⟩
theorem TupsAt.keep {rs : List Addr} {f : Nat → List Nat} (t : TupsAt H rs f) (kp : Keep o H H') (ho : H o = some (.ins C dx fs)) : TupsAt H' rs f := fun x r e => keep_tup kp ho (t x r e)
theorem PairsAt.keep {rs : List Addr} {l : List (Nat × Nat)} (t : PairsAt H rs l) (kp : Keep o H H') (ho : H o = some (.ins C dx fs)) : PairsAt H' rs l := ⟨t.1, fun i r q a b => keep_tup kp ho (t.2 i r q a b)⟩
end
theorem edges_succ {j : Nat} {c : Nat → List Nat} : ((List.range (j + 1)).flatMap fun s => (c s).map fun t => (s, t)) = ((List.range j).flatMap fun s => (c s).map fun t => (s, t)) ++ (c j).map fun t => (j, t) := by
  rw [List.range_succ, List.flatMap_append]
  simp
theorem edges_len {n : Nat} {c : Nat → List Nat} (h : ∀ x, (c x).length ≤ n) : ∀ j, ((List.range j).flatMap fun s => (c s).map fun t => (s, t)).length ≤ j * n
  | 0 => by simp
  | j + 1 => by
    rw [edges_succ, List.length_append, List.length_map, Nat.succ_mul]
    have := edges_len h j
    have := h j
    omega
/-- [(x, y) for x in states for y in c[x]] -/
theorem lc_edges {K : PySem.W.Frag} {st D : Addr} {n i1 i2 : Nat} {vs vs1 : List Nat} {σ : L2.St} {H1 : Hp} {Qd : Hp → Prop} {wi1 : TI} {te : TE} {c : Nat → List Nat} (hn : n ≤ 24) (hc : ∀ x, (c x).length ≤ n)
    (hst : SqL K H1 st (natsV (List.range n))) (hD : H1 D = none)
    (w1 : ∀ y, wipe ((wipe σ vs).set i1 (some y)) vs = wipe σ vs)
    (w2 : ∀ x y, wipe ((wipe ((wipe σ vs).set i1 (some x)) vs1).set i2 (some y)) vs1 = wipe ((wipe σ vs).set i1 (some x)) vs1)
    (hi : ∀ x H' R, x < n → Same H1 H' → (∀ T, SqT K H1 T (natsV (c x)) → R (Itt K T) H') → wi1 ((wipe σ vs).set i1 (some (.int (x : Nat)))) H' R)
    (he : ∀ (x y : Nat) H' Q, x < n → Same H1 H' → (∀ r, H' r = none → Q (.ref r) (upd H' r (.tup [.int (x : Int), .int (y : Int)]))) → te ((wipe ((wipe σ vs).set i1 (some (.int (x : Nat)))) vs1).set i2 (some (.int (y : Nat)))) H' Q)
    (hd : ∀ rs H', Same H1 H' → H' D = some (.lst (rs.map V.ref)) → PairsAt H' rs ((List.range n).flatMap fun s => (c s).map fun t => (s, t)) → Qd H') :
    ∃ W : Nat → Nat → Hp → Prop, (∃ m, W 0 m (upd H1 D (.lst []))) ∧ ∀ i m H, W i m H →
      ((Itl K st).stop i H ∧ Qd H) ∨ ((Itl K st).go i H ∧ ∃ Nx : Hp → Prop, (∀ H', Nx H' → ∃ m', m' < m ∧ W (i + 1) m' H') ∧ ∀ x H', (Itl K st).yld i H x H' → gName i1 x (wipe σ vs) H' fun σ2 H2 => wipe σ2 vs = wipe σ vs ∧ tYes σ2 H2 fun b H3 =>
        if b = true then wi1 σ2 H3 fun J1 H4 => ∃ W1 : Nat → Nat → Hp → Prop, (∃ m, W1 0 m H4) ∧ ∀ j k H, W1 j k H →
          (J1.stop j H ∧ Nx H) ∨ (J1.go j H ∧ ∃ Nx1 : Hp → Prop, (∀ H', Nx1 H' → ∃ k', k' < k ∧ W1 (j + 1) k' H') ∧ ∀ x H', J1.yld j H x H' → gName i2 x (wipe σ2 vs1) H' fun σ3 H5 => wipe σ3 vs1 = wipe σ2 vs1 ∧ tYes σ3 H5 fun b H6 =>
            if b = true then te σ3 H6 fun y H7 => ∃ acc, H7 D = some (.lst acc) ∧ acc.length < sizeLine ∧ Nx1 (upd H7 D (.lst (acc ++ [y]))) else Nx1 H6)
        else Nx H3) := by
  refine ⟨fun i m H => m = n - i ∧ i ≤ n ∧ ∃ rs, Same H1 H ∧ H D = some (.lst (rs.map V.ref)) ∧ PairsAt H rs ((List.range i).flatMap fun s => (c s).map fun t => (s, t)),
    ⟨n, by simp, Nat.zero_le _, [], same_new hD, upd_same, PairsAt.nil⟩, ?_⟩
  rintro i m H ⟨rfl, hin, rs, s1, e1, p1⟩
  have hq := s1.seq hst
  by_cases hlt : i < n
  · refine .inr ⟨⟨_, .int (i : Int), hq, natsV_get (List.getElem?_range hlt)⟩, fun H' => ∃ rs, Same H1 H' ∧ H' D = some (.lst (rs.map V.ref)) ∧ PairsAt H' rs ((List.range (i + 1)).flatMap fun s => (c s).map fun t => (s, t)),
      fun H' q => ⟨n - (i + 1), by omega, rfl, hlt, q⟩, fun x H' y => ?_⟩
    obtain ⟨rfl, y⟩ := y
    obtain rfl : x = .int (i : Int) := (ints_range' (y _ hq)).2
    refine ⟨w1 _, ?_⟩
    refine hi i H' _ hlt s1 fun T hT => ?_
    refine ⟨fun j k H2 => k = (c i).length - j ∧ j ≤ (c i).length ∧ ∃ rs, Same H1 H2 ∧ H2 D = some (.lst (rs.map V.ref)) ∧ PairsAt H2 rs (((List.range i).flatMap fun s => (c s).map fun t => (s, t)) ++ ((c i).take j).map fun t => (i, t)),
      ⟨(c i).length, by simp, Nat.zero_le _, rs, s1, e1, by simpa using p1⟩, ?_⟩
    rintro j k H2 ⟨rfl, hj, rs2, s2, e2, p2⟩
    have hq2 := Same.sqT s2 hT
    by_cases hl : j < (c i).length
    · have hget : (c i)[j]? = some (c i)[j] := by simp [hl]
      refine .inr ⟨⟨_, .int (((c i)[j] : Nat) : Int), hq2, natsV_get hget⟩, fun H3 => ∃ rs, Same H1 H3 ∧ H3 D = some (.lst (rs.map V.ref)) ∧ PairsAt H3 rs (((List.range i).flatMap fun s => (c s).map fun t => (s, t)) ++ ((c i).take (j + 1)).map fun t => (i, t)),
        fun H3 q => ⟨(c i).length - (j + 1), by omega, rfl, hl, q⟩, fun x H3 y => ?_⟩
      obtain ⟨rfl, y⟩ := y
      obtain rfl : x = .int (((c i)[j] : Nat) : Int) := by
        have z := y _ hq2
        rw [natsV_get hget] at z
        exact (Option.some.inj z).symm
      refine ⟨w2 _ _, ?_⟩
      refine he i _ H3 _ hlt s2 fun r hr => ?_
      have nr : r ≠ D := ne_of_none' e2 hr
      have len2 : rs2.length ≤ i * n + n := by
        rw [p2.1, List.length_append, List.length_map, List.length_take]
        have := edges_len hc i
        have := hc i
        omega
      have b2 : i * n ≤ 24 * 24 := Nat.mul_le_mul (by omega) hn
      refine ⟨rs2.map V.ref, by rw [upd_ne nr.symm]; exact e2, small1000 (by rw [List.length_map]; omega), rs2 ++ [r], same_mut (s2.trans (same_new hr)) hD, ?_, ?_⟩
      · rw [upd_same, List.map_append]
        rfl
      · have q := (p2.same (same_new (o := .tup [.int (i : Int), .int (((c i)[j] : Nat) : Int)]) hr)).snoc (r := r) (a := i) (b := (c i)[j]) upd_same
        have e3 : (c i).take (j + 1) = (c i).take j ++ [(c i)[j]] := by
          rw [List.take_add_one, hget]
          rfl
        rw [e3, List.map_append, ← List.append_assoc]
        refine ⟨q.1, fun a r' v a1 a2 => ?_⟩
        have t1 := q.2 a r' v a1 a2
        have nr' : r' ≠ D := by
          rintro rfl
          rw [upd_ne nr.symm, e2] at t1
          cases t1
        rw [upd_ne nr']
        exact t1
    · have ej : j = (c i).length := by omega
      refine .inl ⟨⟨_, hq2, by rw [natsV_len]; omega⟩, rs2, s2, e2, ?_⟩
      rw [edges_succ]
      rw [ej, List.take_length] at p2
      exact p2
  · have e : i = n := by omega
    subst e
    exact .inl ⟨⟨_, hq, by rw [natsV_len, List.length_range]; exact Nat.le_refl _⟩, hd rs H s1 e1 p1⟩
end Z

set_option Elab.async false
set_option linter.all false
set_option maxRecDepth 100000
namespace Z
open PySem L2
/-! ### closings -/
theorem relaxes_eq {M : Nat → Nat → Bool} {mid : Nat} : ∀ (k a b : Nat), relaxes M mid k a b = (M a b || (decide (a < k) && (M a mid && M mid b))) := by
  intro k
  induction k with
  | zero =>
    intro a b
    show M a b = _
    simp
  | succ k ih =>
    intro a b
    have e1 : relaxes M mid k k mid = M k mid := by
      rw [ih]
      simp
    have e2 : ∀ b, relaxes M mid k mid b = M mid b := fun b => by
      rw [ih]
      cases M mid b <;> simp
    have e3 : ∀ b, relaxes M mid k k b = M k b := fun b => by
      rw [ih]
      simp
    show relax (relaxes M mid k) mid k a b = _
    unfold relax
    rw [e1]
    by_cases h : M k mid = true
    · rw [if_pos h]
      by_cases ha : a = k
      · subst ha
        rw [if_pos rfl, e3, e2, h]
        simp
      · rw [if_neg ha, ih]
        by_cases hk : a < k
        · simp [hk, Nat.lt_succ_of_lt hk]
        · have : ¬ a < k + 1 := by omega
          simp [hk, this]
    · rw [if_neg h, ih]
      by_cases ha : a = k
      · subst ha
        have h' : M a mid = false := by
          cases q : M a mid <;> simp_all
        simp [h']
      · by_cases hk : a < k
        · simp [hk, Nat.lt_succ_of_lt hk]
        · have : ¬ a < k + 1 := by omega
          simp [hk, this]
def stepM (M : Nat → Nat → Bool) (k a b : Nat) : Bool := M a b || (M a k && M k b)
def wM (M : Nat → Nat → Bool) : Nat → Nat → Nat → Bool
  | 0 => M
  | k + 1 => stepM (wM M k) k
theorem close_w {n : Nat} {M : Nat → Nat → Bool} : ∀ (k : Nat), k ≤ n → ∀ a b, a < n → closeM n M k a b = wM M k a b := by
  intro k
  induction k with
  | zero => intro _ a b _; rfl
  | succ k ih =>
    intro hk a b ha
    have ih := ih (by omega)
    show relaxes (closeM n M k) k n a b = stepM (wM M k) k a b
    rw [relaxes_eq]
    unfold stepM
    rw [ih a b ha, ih a k ha, ih k b (by omega)]
    simp [ha]
theorem stepM_or {M : Nat → Nat → Bool} {k a b : Nat} : stepM M k a b = true ↔ M a b = true ∨ (M a k = true ∧ M k b = true) := by
  unfold stepM
  rw [Bool.or_eq_true, Bool.and_eq_true]
theorem wM_in {M : Nat → Nat → Bool} {a b : Nat} (h : M a b = true) : ∀ k, wM M k a b = true := by
  intro k
  induction k with
  | zero => exact h
  | succ k ih => exact stepM_or.mpr (.inl ih)
theorem wM_tr {M : Nat → Nat → Bool} : ∀ k m, m < k → ∀ a b, wM M k a m = true → wM M k m b = true → wM M k a b = true := by
  intro k
  induction k with
  | zero => intro m hm; omega
  | succ k ih =>
    intro m hm a b h1 h2
    have h1 := stepM_or.mp h1
    have h2 := stepM_or.mp h2
    refine stepM_or.mpr ?_
    by_cases e : m = k
    · subst e
      have p1 : wM M m a m = true := by
        rcases h1 with h | ⟨h, _⟩ <;> exact h
      have p2 : wM M m m b = true := by
        rcases h2 with h | ⟨_, h⟩ <;> exact h
      exact .inr ⟨p1, p2⟩
    · have ih := ih m (by omega)
      rcases h1 with h1 | ⟨h1, h1'⟩
      · rcases h2 with h2 | ⟨h2, h2'⟩
        · exact .inl (ih _ _ h1 h2)
        · exact .inr ⟨ih _ _ h1 h2, h2'⟩
      · rcases h2 with h2 | ⟨h2, h2'⟩
        · exact .inr ⟨h1, ih _ _ h1' h2⟩
        · exact .inr ⟨h1, h2'⟩
theorem wM_sub {M : Nat → Nat → Bool} {n : Nat} {T : Nat → Nat → Prop} (h0 : ∀ a b, M a b = true → T a b) (tr : ∀ a m b, m < n → T a m → T m b → T a b) : ∀ k, k ≤ n → ∀ a b, wM M k a b = true → T a b := by
  intro k
  induction k with
  | zero => intro _ a b h; exact h0 a b h
  | succ k ih =>
    intro hk a b h
    have ih := ih (by omega)
    rcases stepM_or.mp h with h | ⟨h1, h2⟩
    · exact ih _ _ h
    · exact tr a k b (by omega) (ih _ _ h1) (ih _ _ h2)
theorem bool_ext {a b : Bool} (h : a = true ↔ b = true) : a = b := Bool.eq_iff_iff.mpr h
/-! ### sums -/
def sumN : Nat → (Nat → Nat) → Nat
  | 0, _ => 0
  | n + 1, f => sumN n f + f n
theorem sumN_le {f g : Nat → Nat} : ∀ {n : Nat}, (∀ i, i < n → f i ≤ g i) → sumN n f ≤ sumN n g
  | 0, _ => Nat.le_refl _
  | n + 1, h => Nat.add_le_add (sumN_le fun i hi => h i (by omega)) (h n (by omega))
theorem sumN_eq {f g : Nat → Nat} {n : Nat} (h : ∀ i, i < n → f i = g i) : sumN n f = sumN n g :=
  Nat.le_antisymm (sumN_le fun i hi => Nat.le_of_eq (h i hi)) (sumN_le fun i hi => Nat.le_of_eq (h i hi).symm)
theorem sumN_add {f g : Nat → Nat} : ∀ n : Nat, sumN n (fun i => f i + g i) = sumN n f + sumN n g
  | 0 => rfl
  | n + 1 => by
    show sumN n (fun i => f i + g i) + (f n + g n) = (sumN n f + f n) + (sumN n g + g n)
    rw [sumN_add n]
    omega
theorem sumN_zero : ∀ n : Nat, sumN n (fun _ => 0) = 0
  | 0 => rfl
  | n + 1 => by
    show sumN n (fun _ => 0) + 0 = 0
    rw [sumN_zero n]
theorem sumN_swap {c : Nat → Nat → Nat} (m : Nat) : ∀ n : Nat, sumN n (fun x => sumN m fun y => c x y) = sumN m fun y => sumN n fun x => c x y
  | 0 => (sumN_zero m).symm
  | n + 1 => by
    show sumN n (fun x => sumN m fun y => c x y) + sumN m (fun y => c n y) = sumN m fun y => sumN n (fun x => c x y) + c n y
    rw [sumN_swap m n, sumN_add]
theorem sumN_const (k : Nat) : ∀ n : Nat, sumN n (fun _ => k) = n * k
  | 0 => by simp [sumN]
  | n + 1 => by
    show sumN n (fun _ => k) + k = _
    rw [sumN_const k n, Nat.add_mul, Nat.one_mul]
theorem sumN_one {x : Nat} : ∀ {n : Nat}, x < n → sumN n (fun y => if x = y then 1 else 0) = 1
  | n + 1, h => by
    show sumN n (fun y => if x = y then 1 else 0) + (if x = n then 1 else 0) = 1
    by_cases e : x = n
    · subst e
      have z : sumN x (fun y => if x = y then 1 else 0) = sumN x (fun _ => 0) := sumN_eq fun i hi => by
        rw [if_neg (by omega)]
      rw [z, sumN_zero, if_pos rfl]
    · rw [sumN_one (by omega), if_neg e]
theorem fl_sum {p : Nat → Bool} : ∀ n : Nat, (fl n p).length = sumN n fun i => if p i = true then 1 else 0
  | 0 => rfl
  | n + 1 => by
    show _ = sumN n _ + (if p n = true then 1 else 0)
    rw [← fl_sum n, fl_succ]
    by_cases h : p n = true
    · rw [if_pos h, if_pos h, List.length_append]
      rfl
    · rw [if_neg h, if_neg h]
      rfl
theorem fl_mono {p q : Nat → Bool} {n : Nat} (h : ∀ i, i < n → p i = true → q i = true) : (fl n p).length ≤ (fl n q).length := by
  rw [fl_sum, fl_sum]
  refine sumN_le fun i hi => ?_
  by_cases e : p i = true
  · rw [if_pos e, if_pos (h i hi e)]
    exact Nat.le_refl _
  · rw [if_neg e]
    exact Nat.zero_le _
theorem fl_congr {p q : Nat → Bool} {n : Nat} (h : ∀ i, i < n → p i = q i) : fl n p = fl n q := by
  unfold fl
  exact List.filter_congr fun i hi => h i (List.mem_range.mp hi)
theorem fl_mem {p : Nat → Bool} {n i : Nat} : i ∈ fl n p ↔ i < n ∧ p i = true := by
  unfold fl
  rw [List.mem_filter, List.mem_range]
theorem edges_sum {c : Nat → Nat → Bool} {n : Nat} : (edgesL n c).length = sumN n fun x => (fl n (c x)).length := by
  have go : ∀ k, ((List.range k).flatMap fun s => (fl n (c s)).map fun t => (s, t)).length = sumN k fun x => (fl n (c x)).length := fun k => by
    induction k with
    | zero => rfl
    | succ k ih =>
      rw [List.range_succ, List.flatMap_append, List.length_append, ih]
      show _ + _ = sumN k _ + _
      simp
  exact go n
theorem edges_mem {c : Nat → Nat → Bool} {n x y : Nat} : (x, y) ∈ edgesL n c ↔ x < n ∧ y < n ∧ c x y = true := by
  unfold edgesL
  rw [List.mem_flatMap]
  constructor
  · rintro ⟨s, hs, h⟩
    obtain ⟨t, ht, e⟩ := List.mem_map.mp h
    cases e
    exact ⟨List.mem_range.mp hs, fl_mem.mp ht⟩
  · rintro ⟨hx, hy, h⟩
    exact ⟨x, List.mem_range.mpr hx, List.mem_map.mpr ⟨y, fl_mem.mpr ⟨hy, h⟩, rfl⟩⟩
theorem edges_congr {c d : Nat → Nat → Bool} {n : Nat} (h : ∀ x y, x < n → y < n → c x y = d x y) : edgesL n c = edgesL n d := by
  have go : ∀ k, k ≤ n → ((List.range k).flatMap fun s => (fl n (c s)).map fun t => (s, t)) = ((List.range k).flatMap fun s => (fl n (d s)).map fun t => (s, t)) := fun k => by
    induction k with
    | zero => intro _; rfl
    | succ k ih =>
      intro hk
      rw [List.range_succ, List.flatMap_append, List.flatMap_append, ih (by omega)]
      simp only [List.flatMap_cons, List.flatMap_nil]
      rw [fl_congr fun i hi => h k i (by omega) hi]
  exact go n (Nat.le_refl _)
/-! ### orders -/
/-- a partial order of the numbers below n with the least one 0 -/
structure PO (n : Nat) (B : Nat → Nat → Bool) (rk : Nat → Nat) : Prop where
  n1 : 1 ≤ n
  n24 : n ≤ 24
  rf : ∀ x, x < n → B x x = true
  tr : ∀ x y z, x < n → y < n → z < n → B x y = true → B y z = true → B x z = true
  ls : ∀ y, y < n → B 0 y = true
  up : ∀ x y, x < n → y < n → x ≠ y → B x y = true → rk x < rk y
def sB (B : Nat → Nat → Bool) (x y : Nat) : Bool := decide (y ≠ x) && B x y
def cvB (n : Nat) (B : Nat → Nat → Bool) (x y : Nat) : Bool := sB B x y && (fl n fun z => sB B x z && (decide (z ≠ y) && B z y)).isEmpty
theorem sB_iff {B : Nat → Nat → Bool} {x y : Nat} : sB B x y = true ↔ y ≠ x ∧ B x y = true := by
  unfold sB
  rw [Bool.and_eq_true, decide_eq_true_eq]
theorem cvB_iff {n : Nat} {B : Nat → Nat → Bool} {x y : Nat} : cvB n B x y = true ↔ sB B x y = true ∧ ∀ z, z < n → ¬ (sB B x z = true ∧ sB B z y = true) := by
  unfold cvB
  rw [Bool.and_eq_true, List.isEmpty_iff]
  refine and_congr_right fun _ => ⟨fun h z hz q => ?_, fun h => ?_⟩
  · have m : z ∈ fl n fun z => sB B x z && (decide (z ≠ y) && B z y) := fl_mem.mpr ⟨hz, by
      obtain ⟨q1, q2⟩ := q
      have q2 := sB_iff.mp q2
      rw [q1, q2.2, decide_eq_true (Ne.symm q2.1)]
      rfl⟩
    rw [h] at m
    cases m
  · cases e : fl n fun z => sB B x z && (decide (z ≠ y) && B z y) with
    | nil => rfl
    | cons z l =>
      have m : z ∈ fl n fun z => sB B x z && (decide (z ≠ y) && B z y) := by
        rw [e]
        exact List.mem_cons_self
      obtain ⟨hz, q⟩ := fl_mem.mp m
      rw [Bool.and_eq_true, Bool.and_eq_true, decide_eq_true_eq] at q
      exact absurd ⟨q.1, sB_iff.mpr ⟨Ne.symm q.2.1, q.2.2⟩⟩ (h z hz)
section
variable {n : Nat} {B : Nat → Nat → Bool} {rk : Nat → Nat}
theorem PO.str (p : PO n B rk) {x y z : Nat} (hx : x < n) (hy : y < n) (hz : z < n) (h1 : sB B x y = true) (h2 : sB B y z = true) : sB B x z = true := by
  have h1 := sB_iff.mp h1
  have h2 := sB_iff.mp h2
  have a := p.up x y hx hy (Ne.symm h1.1) h1.2
  have b := p.up y z hy hz (Ne.symm h2.1) h2.2
  exact sB_iff.mpr ⟨fun e => by rw [e] at b; omega, p.tr x y z hx hy hz h1.2 h2.2⟩
/-- what pairs close to -/
theorem PO.close (p : PO n B rk) {prs : List (Nat × Nat)} (h1 : ∀ z ∈ prs, z.1 < n ∧ z.2 < n ∧ sB B z.1 z.2 = true) (h2 : ∀ x y, x < n → y < n → cvB n B x y = true → (x, y) ∈ prs) {x y : Nat} (hx : x < n) (hy : y < n) :
    closeM n (initM prs) n x y = sB B x y := by
  rw [close_w n (Nat.le_refl _) x y hx]
  refine bool_ext ⟨fun h => ?_, fun h => ?_⟩
  · exact wM_sub (M := initM prs) (n := n) (T := fun a b => a < n ∧ b < n ∧ sB B a b = true) (fun a b h => h1 (a, b) (of_decide_eq_true h)) (fun a m b hm q1 q2 => ⟨q1.1, q2.2.1, p.str q1.1 hm q2.2.1 q1.2.2 q2.2.2⟩) n (Nat.le_refl _) x y h |>.2.2
  · have go : ∀ d x y, x < n → y < n → sB B x y = true → rk y - rk x ≤ d → wM (initM prs) n x y = true := fun d => by
      induction d with
      | zero =>
        intro x y hx hy h hd
        have := p.up x y hx hy (Ne.symm (sB_iff.mp h).1) (sB_iff.mp h).2
        omega
      | succ d ih =>
        intro x y hx hy h hd
        by_cases c : cvB n B x y = true
        · exact wM_in (M := initM prs) (decide_eq_true (h2 x y hx hy c)) n
        · have ex : ∃ z, z < n ∧ sB B x z = true ∧ sB B z y = true := by
            by_cases q : ∃ z, z < n ∧ sB B x z = true ∧ sB B z y = true
            · exact q
            · exact absurd (cvB_iff.mpr ⟨h, fun z hz k => q ⟨z, hz, k.1, k.2⟩⟩) c
          obtain ⟨z, hz, a, b⟩ := ex
          have u1 := p.up x z hx hz (Ne.symm (sB_iff.mp a).1) (sB_iff.mp a).2
          have u2 := p.up z y hz hy (Ne.symm (sB_iff.mp b).1) (sB_iff.mp b).2
          exact wM_tr n z hz x y (ih x z hx hz a (by omega)) (ih z y hz hy b (by omega))
    exact go _ x y hx hy h (Nat.le_refl _)
theorem PO.count (p : PO n B rk) : (edgesL n (sB B)).length ≤ 276 := by
  rw [edges_sum]
  have e : ∀ x, (fl n (sB B x)).length = sumN n fun y => if sB B x y = true then 1 else 0 := fun x => fl_sum n
  have e2 : sumN n (fun x => (fl n (sB B x)).length) = sumN n fun x => sumN n fun y => if sB B x y = true then 1 else 0 := sumN_eq fun x _ => e x
  have sw := sumN_swap (c := fun x y => if sB B x y = true then 1 else 0) n n
  have one : sumN n (fun x => sumN n fun y => if x = y then 1 else 0) = n := by
    rw [sumN_eq (g := fun _ => 1) fun x hx => sumN_one hx, sumN_const, Nat.mul_one]
  have tot : sumN n (fun x => sumN n fun y => ((if sB B x y = true then 1 else 0) + (if sB B y x = true then 1 else 0)) + (if x = y then 1 else 0)) ≤ n * n := by
    rw [← sumN_const n n]
    refine sumN_le fun x hx => ?_
    have z : sumN n (fun _ => 1) = n := by rw [sumN_const, Nat.mul_one]
    refine Nat.le_trans (sumN_le (g := fun _ => 1) fun y hy => ?_) (Nat.le_of_eq z)
    by_cases e : x = y
    · subst e
      have q : ¬ sB B x x = true := fun h => (sB_iff.mp h).1 rfl
      rw [if_neg q, if_pos rfl]
      exact Nat.le_refl _
    · rw [if_neg e]
      by_cases q1 : sB B x y = true
      · have q2 : ¬ sB B y x = true := fun h => by
          have u1 := p.up x y hx hy e (sB_iff.mp q1).2
          have u2 := p.up y x hy hx (Ne.symm e) (sB_iff.mp h).2
          omega
        rw [if_pos q1, if_neg q2]
        exact Nat.le_refl _
      · rw [if_neg q1]
        by_cases q2 : sB B y x = true
        · rw [if_pos q2]
          exact Nat.le_refl _
        · rw [if_neg q2]
          exact Nat.zero_le _
  have sp : sumN n (fun x => sumN n fun y => ((if sB B x y = true then 1 else 0) + (if sB B y x = true then 1 else 0)) + (if x = y then 1 else 0)) = (sumN n (fun x => sumN n fun y => if sB B x y = true then 1 else 0) + sumN n (fun x => sumN n fun y => if sB B y x = true then 1 else 0)) + sumN n (fun x => sumN n fun y => if x = y then 1 else 0) := by
    rw [← sumN_add, ← sumN_add]
    exact sumN_eq fun x _ => by rw [sumN_add, sumN_add]
  rw [sp, one, ← sw] at tot
  rw [e2]
  have b : n * n ≤ 24 * n := Nat.mul_le_mul_right _ p.n24
  have c := p.n24
  omega
theorem cv_le {n : Nat} {B : Nat → Nat → Bool} : (edgesL n (cvB n B)).length ≤ (edgesL n (sB B)).length := by
  rw [edges_sum, edges_sum]
  refine sumN_le fun x _ => fl_mono fun y _ h => ?_
  exact (cvB_iff.mp h).1
end
/-! ### orders out of pairs -/
def refM (prs : List (Nat × Nat)) (x y : Nat) : Bool := decide (x = y) || (decide (x = 0) || decide ((x, y) ∈ prs))
theorem po_of {n : Nat} {prs : List (Nat × Nat)} {rk : Nat → Nat} (h1 : 1 ≤ n) (h24 : n ≤ 24) (hp : ∀ z ∈ prs, z.1 < n ∧ z.2 < n ∧ rk z.1 < rk z.2) (h0 : ∀ x, x < n → x ≠ 0 → rk 0 < rk x) : PO n (wM (refM prs) n) rk := by
  refine ⟨h1, h24, fun x hx => wM_in (by simp [refM]) n, fun x y z _ hy _ => wM_tr n y hy x z, fun y hy => wM_in (by simp [refM]) n, fun x y hx hy ne h => ?_⟩
  have s := wM_sub (M := refM prs) (n := n) (T := fun a b => a < n → b < n → a = b ∨ rk a < rk b) (fun a b q ha hb => ?_) (fun a m b hm q1 q2 ha hb => ?_) n (Nat.le_refl _) x y h hx hy
  · rcases s with s | s
    · exact absurd s ne
    · exact s
  · unfold refM at q
    rw [Bool.or_eq_true, Bool.or_eq_true, decide_eq_true_eq, decide_eq_true_eq, decide_eq_true_eq] at q
    rcases q with q | q | q
    · exact .inl q
    · subst q
      by_cases e : b = 0
      · exact .inl e.symm
      · exact .inr (h0 b hb e)
    · exact .inr (hp _ q).2.2
  · rcases q1 ha hm with e1 | e1
    · subst e1
      exact q2 hm hb
    · rcases q2 hm hb with e2 | e2
      · subst e2
        exact .inr e1
      · exact .inr (Nat.lt_trans e1 e2)
end Z

set_option Elab.async false
set_option linter.all false
set_option maxRecDepth 100000
namespace Z
open PySem L2
variable [TabsP]
local macro_rules | `(tactic| walk_at "d") => `(tactic| simp only [dSq, dIf, dOr, dAnd, dNot, dTT, dTB, dUn, dBin, dVar, dC, dRet, dNext, dOrV, dAndV, dNotT, dIfE, isiD, OV.isOwn, startD, List.map_cons, List.map_nil, List.cons_append, List.nil_append, List.append_nil, List.length_cons, List.length_nil, List.replicate, Nat.reduceAdd, Nat.reduceSub, Nat.sub_self, Nat.add_sub_cancel,
  List.getElem?_cons_zero, List.getElem?_cons_succ, bOk, iv_d, iv_n, iv_v, nr_d, nr_n, List.any_cons, List.any_nil, Bool.or_false, Bool.or_true, Bool.false_eq_true, Bool.not_true, Bool.not_false, false_implies, true_and, and_true, if_true, if_false, ite_true, ite_false, forall_const, reduceIte, reduceCtorEq,
  d0_1, dI_1, ad_i, ad_t, ad_l, ng_1, dCa, dCall0, dFld, dLc2, dCons, dNil, dTup, dLst, dEq, dSeq, dRange, dEnum, dRg1, dRg2, dListRg, dTupRg, dSl, dONone, dOSome, dCall, mv_d, mv_n, mv_v, nn_n, nn_b, nn_i, nn_s, nn_l, nn_t, nn_x, nn_d, dSetF, dSetO, dDrop, dFor, dgName, dgTup, dgCons, dgNil, dRetN, dYes, it_1, pm_1, nmR, dXf, dIsE, sq_l, sq_t, sq_x, tr_n, tr_b, tr_i, tr_l, tr_t, tr_x, tr_d, vl_d, vl_n, vl_v, fr_d, fr_o, fr_k, sl_l, sl_t, sl_x, le_1, li_1, tu_1, tu_l, tu_t, tu_x, tx_1, tx_l, tx_t, tx_x, rr_d, rr_n, rr_v, in_1, ix_1, dt_1, isB_1, dCallT, dIdx, dRaise, dAsg, dDnew, List.set_cons_zero, List.set_cons_succ, noOwnAt, List.all_cons, List.all_nil, wipeE, lent, hasOwn, Option.map_some, Option.map_none, dLc, lt_n, pl_n, tyB_n, tyI_n, tyS_n, tyL_n, tyT_n, lt_b, pl_b, tyB_b, tyI_b, tyS_b, tyL_b, tyT_b, lt_i, pl_i, tyB_i, tyI_i, tyS_i, tyL_i, tyT_i, lt_s, pl_s, tyB_s, tyI_s, tyS_s, tyL_s, tyT_s, lt_l, pl_l, tyB_l, tyI_l, tyS_l, tyL_l, tyT_l, lt_t, pl_t, tyB_t, tyI_t, tyS_t, tyL_t, tyT_t, lt_x, pl_x, tyB_x, tyI_x, tyS_x, tyL_x, tyT_x, lt_d, pl_d, tyB_d, tyI_d, tyS_d, tyL_d, tyT_d, noL, noLA, Bool.and_true, Bool.true_and])
local macro_rules | `(tactic| walk_at "e") => `(tactic| first | exact ⟨_, rfl, rfl⟩ | rfl)
/-! ## orders made from pairs between their edges and the whole -/
section
variable {n : Nat} {M M' : Nat → Nat → Bool}
theorem covB_congr (h : ∀ x y, x < n → y < n → M x y = M' x y) {x y : Nat} (hx : x < n) (hy : y < n) : covB n M x y = covB n M' x y := by
  unfold covB
  rw [h x y hx hy]
  congr 2
  rw [List.map_congr_left fun z hz => by
    have hz := List.mem_range.mp hz
    show (M x z && M z y) = (M' x z && M' z y)
    rw [h x z hx hz, h z y hz hy]]
theorem flt_congr {p q : Nat → Bool} (h : ∀ x, x < n → p x = q x) : (List.range n).filter p = (List.range n).filter q := List.filter_congr fun x hx => h x (List.mem_range.mp hx)
theorem map_congr_r {α : Type} {f g : Nat → α} (h : ∀ x, x < n → f x = g x) : (List.range n).map f = (List.range n).map g := List.map_congr_left fun x hx => h x (List.mem_range.mp hx)
theorem cvL_congr (h : ∀ x y, x < n → y < n → M x y = M' x y) {x : Nat} (hx : x < n) : cvL n M x = cvL n M' x := flt_congr fun y hy => covB_congr h hx hy
theorem fm_congr {α : Type} {f g : Nat → List α} (h : ∀ x, x < n → f x = g x) : (List.range n).flatMap f = (List.range n).flatMap g := by
  rw [List.flatMap_def, List.flatMap_def, map_congr_r h]
theorem ordDs_congr (h : ∀ x y, x < n → y < n → M x y = M' x y) : ordDs n M = ordDs n M' := by
  unfold ordDs
  rw [show abvD n M = abvD n M' from congrArg D.tup (map_congr_r fun x hx => by rw [flt_congr fun y hy => h x y hx hy]),
    show blwD n M = blwD n M' from congrArg D.tup (map_congr_r fun y hy => by rw [flt_congr fun x hx => h x y hx hy]),
    show cvsD n M = cvsD n M' from congrArg D.tup (map_congr_r fun x hx => by rw [cvL_congr h hx]),
    show endD n M = endD n M' from congrArg stD (flt_congr fun x hx => by rw [cvL_congr h hx]),
    show edgD n M = edgD n M' from congrArg D.tup (fm_congr fun x hx => by rw [cvL_congr h hx])]
end
section
variable {n : Nat} {B : Nat → Nat → Bool} {rk : Nat → Nat}
theorem PO.sq (p : PO n B rk) {M : Nat → Nat → Bool} (hM : ∀ x y, x < n → y < n → M x y = sB B x y) : SqOk n M := by
  refine ⟨p.n1, p.n24, fun x hx => ?_, fun x h0 hx => ?_⟩
  · rw [hM x x hx hx]
    unfold sB
    simp
  · rw [hM 0 x (by omega) hx]
    exact sB_iff.mpr ⟨by omega, p.ls x hx⟩
theorem PO.oi (p : PO n B rk) {d : D} {ps : List D} {Q : List D → Prop} {ex : EXD} (hs : seqOfD d = some ps) (no : noO d = true) (hl : ps.length ≤ 600) (hc : ∀ e ∈ ps, CpD n e) (h1 : ∀ e ∈ ps, sB B (prD e).1 (prD e).2 = true)
    (h2 : ∀ x y, x < n → y < n → cvB n B x y = true → (x, y) ∈ ps.map prD) (q : Q (ordDs n (sB B))) : wOI [.int (n : Int), d] Q ex := by
  have hM : ∀ x y, x < n → y < n → closeM n (initM (ps.map prD)) n x y = sB B x y := fun x y hx hy => by
    refine p.close (fun z hz => ?_) h2 hx hy
    obtain ⟨e, he, rfl⟩ := List.mem_map.mp hz
    obtain ⟨a, b, e2, ha, hb⟩ := hc e he
    have e3 : prD e = (a, b) := by unfold prD; rw [e2]; simp
    refine ⟨by rw [e3]; exact ha, by rw [e3]; exact hb, h1 e he⟩
  exact ⟨n, d, ps, rfl, hs, no, ⟨p.n1, p.n24, hl, hc⟩, p.sq hM, by rw [ordDs_congr hM]; exact q⟩
end
/-- couples of numbers -/
def cpD (z : Nat × Nat) : D := .tup [nD z.1, nD z.2]
theorem cpD_ok {n : Nat} {z : Nat × Nat} (h1 : z.1 < n) (h2 : z.2 < n) : CpD n (cpD z) := ⟨z.1, z.2, rfl, h1, h2⟩
theorem prD_cp (z : Nat × Nat) : prD (cpD z) = z := by
  unfold prD
  rw [show dcD (cpD z) = some ((z.1 : Int), (z.2 : Int)) from rfl]
  simp
theorem prD_cps (l : List (Nat × Nat)) : (l.map cpD).map prD = l := by
  rw [List.map_map]
  exact (List.map_congr_left fun z _ => prD_cp z).trans (List.map_id _)
theorem noO_cps (l : List (Nat × Nat)) : noOA (l.map cpD) = true := noOA_map (fun _ => rfl) l
theorem edg_cps (n : Nat) (M : Nat → Nat → Bool) : edgD n M = .tup ((edgesL n (covB n M)).map cpD) := by
  unfold edgD edgesL
  rw [List.map_flatMap]
  refine congrArg D.tup (congrArg (List.range n).flatMap (funext fun x => ?_))
  rw [List.map_map]
  rfl
/-- an order from a list or tuple of couples of numbers -/
theorem PO.oiL {n : Nat} {B : Nat → Nat → Bool} {rk : Nat → Nat} (p : PO n B rk) {d : D} {l : List (Nat × Nat)} {Q : List D → Prop} {ex : EXD} (hd : d = .lst (l.map cpD) ∨ d = .tup (l.map cpD)) (hl : l.length ≤ 600) (h1 : ∀ z ∈ l, z.1 < n ∧ z.2 < n ∧ sB B z.1 z.2 = true)
    (h2 : ∀ x y, x < n → y < n → cvB n B x y = true → (x, y) ∈ l) (q : Q (ordDs n (sB B))) : wOI [.int (n : Int), d] Q ex := by
  refine p.oi (ps := l.map cpD) ?_ ?_ (by rw [List.length_map]; exact hl) (fun e he => ?_) (fun e he => ?_) (fun x y hx hy c => by rw [prD_cps]; exact h2 x y hx hy c) q
  · rcases hd with rfl | rfl <;> rfl
  · rcases hd with rfl | rfl <;> exact noO_cps l
  · obtain ⟨z, hz, rfl⟩ := List.mem_map.mp he
    exact cpD_ok (h1 z hz).1 (h1 z hz).2.1
  · obtain ⟨z, hz, rfl⟩ := List.mem_map.mp he
    rw [prD_cp]
    exact (h1 z hz).2.2
end Z

set_option Elab.async false
set_option linter.all false
set_option maxRecDepth 100000
namespace Z
/-! ## orders out of orders: what holds below them -/
section
variable {n : Nat} {B : Nat → Nat → Bool} {rk : Nat → Nat}
theorem PO.cov (p : PO n B rk) {M : Nat → Nat → Bool} (hM : ∀ x y, x < n → y < n → M x y = sB B x y) {x y : Nat} (hx : x < n) (hy : y < n) : covB n M x y = cvB n B x y := by
  refine bool_ext ?_
  rw [cvB_iff]
  unfold covB
  rw [Bool.and_eq_true, hM x y hx hy, Bool.not_eq_true']
  refine and_congr_right fun _ => ⟨fun h z hz q => ?_, fun h => ?_⟩
  · have : (((List.range n).map fun mid => M x mid && M mid y).any id) = true := by
      rw [List.any_map]
      exact List.any_eq_true.mpr ⟨z, List.mem_range.mpr hz, by
        show (M x z && M z y) = true
        rw [hM x z hx hz, hM z y hz hy, q.1, q.2]
        rfl⟩
    rw [h] at this
    cases this
  · cases e : ((List.range n).map fun mid => M x mid && M mid y).any id with
    | false => rfl
    | true =>
      rw [List.any_map] at e
      obtain ⟨z, hz, q⟩ := List.any_eq_true.mp e
      have hz := List.mem_range.mp hz
      have q : (M x z && M z y) = true := q
      rw [hM x z hx hz, hM z y hz hy, Bool.and_eq_true] at q
      exact absurd q (h z hz)
theorem PO.cov0 (p : PO n B rk) {x y : Nat} (hx : x < n) (hy : y < n) : covB n (sB B) x y = cvB n B x y := p.cov (fun _ _ _ _ => rfl) hx hy
end
theorem cv_sB {n : Nat} {B : Nat → Nat → Bool} {x y : Nat} (h : cvB n B x y = true) : sB B x y = true := (cvB_iff.mp h).1
theorem PO.as (p : PO n B rk) {x y : Nat} (hx : x < n) (hy : y < n) (h1 : B x y = true) (h2 : B y x = true) : x = y := by
  by_cases e : x = y
  · exact e
  · have a := p.up x y hx hy e h1
    have b := p.up y x hy hx (Ne.symm e) h2
    omega
/-- an order of couples; the couple (a, u) is a * m + u -/
def prodB (m : Nat) (A B : Nat → Nat → Bool) (x y : Nat) : Bool := A (x / m) (y / m) && B (x % m) (y % m)
theorem dm {a u m : Nat} (h : u < m) : (a * m + u) / m = a ∧ (a * m + u) % m = u := by
  have : 0 < m := by omega
  constructor
  · rw [Nat.mul_comm, Nat.mul_add_div this, Nat.div_eq_of_lt h, Nat.add_zero]
  · rw [Nat.mul_comm, Nat.mul_add_mod, Nat.mod_eq_of_lt h]
theorem lt_of_dm {a u n m : Nat} (ha : a < n) (hu : u < m) : a * m + u < n * m := by
  have : (a + 1) * m ≤ n * m := Nat.mul_le_mul_right m ha
  rw [Nat.succ_mul] at this
  omega
theorem prodB_iff {m : Nat} {A B : Nat → Nat → Bool} {a u b v : Nat} (hu : u < m) (hv : v < m) : prodB m A B (a * m + u) (b * m + v) = true ↔ A a b = true ∧ B u v = true := by
  unfold prodB
  rw [(dm hu).1, (dm hu).2, (dm hv).1, (dm hv).2, Bool.and_eq_true]
theorem cell {n m x : Nat} (h : x < n * m) : ∃ a u, a < n ∧ u < m ∧ x = a * m + u := by
  have hm : 0 < m := by
    cases m with
    | zero => omega
    | succ m => omega
  refine ⟨x / m, x % m, Nat.div_lt_of_lt_mul (by rw [Nat.mul_comm]; exact h), Nat.mod_lt _ hm, ?_⟩
  rw [Nat.mul_comm]
  exact (Nat.div_add_mod x m).symm
section
variable {n m : Nat} {A B : Nat → Nat → Bool} {ra rb : Nat → Nat}
theorem PO.prod (p : PO n A ra) (q : PO m B rb) (h : n * m ≤ 24) : PO (n * m) (prodB m A B) (fun x => ra (x / m) + rb (x % m)) := by
  refine ⟨Nat.mul_le_mul p.n1 q.n1, h, fun x hx => ?_, fun x y z hx hy hz h1 h2 => ?_, fun y hy => ?_, fun x y hx hy ne h1 => ?_⟩
  · obtain ⟨a, u, ha, hu, rfl⟩ := cell hx
    exact (prodB_iff hu hu).mpr ⟨p.rf a ha, q.rf u hu⟩
  · obtain ⟨a, u, ha, hu, rfl⟩ := cell hx
    obtain ⟨b, v, hb, hv, rfl⟩ := cell hy
    obtain ⟨c, w, hc, hw, rfl⟩ := cell hz
    have h1 := (prodB_iff hu hv).mp h1
    have h2 := (prodB_iff hv hw).mp h2
    exact (prodB_iff hu hw).mpr ⟨p.tr a b c ha hb hc h1.1 h2.1, q.tr u v w hu hv hw h1.2 h2.2⟩
  · obtain ⟨b, v, hb, hv, rfl⟩ := cell hy
    have := (prodB_iff (A := A) (B := B) (a := 0) (u := 0) (b := b) (v := v) (by omega) hv).mpr ⟨p.ls b hb, q.ls v hv⟩
    rw [Nat.zero_mul, Nat.zero_add] at this
    exact this
  · obtain ⟨a, u, ha, hu, rfl⟩ := cell hx
    obtain ⟨b, v, hb, hv, rfl⟩ := cell hy
    have h1 := (prodB_iff hu hv).mp h1
    show ra ((a * m + u) / m) + rb ((a * m + u) % m) < ra ((b * m + v) / m) + rb ((b * m + v) % m)
    rw [(dm hu).1, (dm hu).2, (dm hv).1, (dm hv).2]
    by_cases e1 : a = b
    · subst e1
      have e2 : u ≠ v := fun e => ne (by rw [e])
      have := q.up u v hu hv e2 h1.2
      omega
    · have := p.up a b ha hb e1 h1.1
      by_cases e2 : u = v
      · subst e2
        omega
      · have := q.up u v hu hv e2 h1.2
        omega
theorem prod_cov (p : PO n A ra) (q : PO m B rb) {x y : Nat} (hx : x < n * m) (hy : y < n * m) (c : cvB (n * m) (prodB m A B) x y = true) :
    (∃ a b u, cvB n A a b = true ∧ a < n ∧ b < n ∧ u < m ∧ x = a * m + u ∧ y = b * m + u) ∨ ∃ u v a, cvB m B u v = true ∧ u < m ∧ v < m ∧ a < n ∧ x = a * m + u ∧ y = a * m + v := by
  obtain ⟨a, u, ha, hu, rfl⟩ := cell hx
  obtain ⟨b, v, hb, hv, rfl⟩ := cell hy
  obtain ⟨s, no⟩ := cvB_iff.mp c
  obtain ⟨ne, h⟩ := sB_iff.mp s
  obtain ⟨h1, h2⟩ := (prodB_iff hu hv).mp h
  by_cases e1 : a = b
  · subst e1
    have e2 : v ≠ u := fun e => ne (by rw [e])
    refine .inr ⟨u, v, a, cvB_iff.mpr ⟨sB_iff.mpr ⟨e2, h2⟩, fun w hw ⟨k1, k2⟩ => ?_⟩, hu, hv, ha, rfl, rfl⟩
    have k1 := sB_iff.mp k1
    have k2 := sB_iff.mp k2
    refine no (a * m + w) (lt_of_dm ha hw) ⟨sB_iff.mpr ⟨fun e => k1.1 (by omega), (prodB_iff hu hw).mpr ⟨p.rf a ha, k1.2⟩⟩, sB_iff.mpr ⟨fun e => k2.1 (by omega), (prodB_iff hw hv).mpr ⟨p.rf a ha, k2.2⟩⟩⟩
  · by_cases e2 : u = v
    · subst e2
      refine .inl ⟨a, b, u, cvB_iff.mpr ⟨sB_iff.mpr ⟨Ne.symm e1, h1⟩, fun w hw ⟨k1, k2⟩ => ?_⟩, ha, hb, hu, rfl, rfl⟩
      have k1 := sB_iff.mp k1
      have k2 := sB_iff.mp k2
      refine no (w * m + u) (lt_of_dm hw hu) ⟨sB_iff.mpr ⟨fun e => k1.1 ?_, (prodB_iff hu hu).mpr ⟨k1.2, q.rf u hu⟩⟩, sB_iff.mpr ⟨fun e => k2.1 ?_, (prodB_iff hu hu).mpr ⟨k2.2, q.rf u hu⟩⟩⟩
      · rw [← (dm (a := w) hu).1, e, (dm hu).1]
      · rw [← (dm (a := b) hu).1, e, (dm hu).1]
    · exfalso
      refine no (a * m + v) (lt_of_dm ha hv) ⟨sB_iff.mpr ⟨fun e => e2 (by omega), (prodB_iff hu hv).mpr ⟨p.rf a ha, h2⟩⟩, sB_iff.mpr ⟨fun e => e1 ?_, (prodB_iff hv hv).mpr ⟨h1, q.rf v hv⟩⟩⟩
      rw [← (dm (a := a) hv).1, ← e, (dm hv).1]
theorem prod_up1 (p : PO n A ra) (q : PO m B rb) {a b u : Nat} (ha : a < n) (hb : b < n) (hu : u < m) (h : sB A a b = true) : a * m + u < n * m ∧ b * m + u < n * m ∧ sB (prodB m A B) (a * m + u) (b * m + u) = true := by
  have h := sB_iff.mp h
  refine ⟨lt_of_dm ha hu, lt_of_dm hb hu, sB_iff.mpr ⟨fun e => h.1 ?_, (prodB_iff hu hu).mpr ⟨h.2, q.rf u hu⟩⟩⟩
  rw [← (dm (a := b) hu).1, e, (dm hu).1]
theorem prod_up2 (p : PO n A ra) (q : PO m B rb) {a u v : Nat} (ha : a < n) (hu : u < m) (hv : v < m) (h : sB B u v = true) : a * m + u < n * m ∧ a * m + v < n * m ∧ sB (prodB m A B) (a * m + u) (a * m + v) = true := by
  have h := sB_iff.mp h
  exact ⟨lt_of_dm ha hu, lt_of_dm ha hv, sB_iff.mpr ⟨fun e => h.1 (by omega), (prodB_iff hu hv).mpr ⟨p.rf a ha, h.2⟩⟩⟩
end
/-- n * m at most 24: the edges of both, as often as there are states of the other -/
theorem prod_many {n m e f : Nat} (hn : 1 ≤ n) (hm : 1 ≤ m) (h : n * m ≤ 24) (he : e ≤ n * n) (hf : f ≤ m * m) : e * m + f * n ≤ 600 := by
  have a : e * m ≤ n * n * m := Nat.mul_le_mul_right m he
  have b : f * n ≤ m * m * n := Nat.mul_le_mul_right n hf
  have c : n * n * m = n * (n * m) := Nat.mul_assoc n n m
  have d : m * m * n = m * (n * m) := by rw [Nat.mul_assoc, Nat.mul_comm m n]
  have s : n + m ≤ 25 := by
    obtain ⟨k, rfl⟩ : ∃ k, n = k + 1 := ⟨n - 1, by omega⟩
    obtain ⟨l, rfl⟩ : ∃ l, m = l + 1 := ⟨m - 1, by omega⟩
    have : (k + 1) * (l + 1) = k * l + k + l + 1 := by rw [Nat.succ_mul, Nat.mul_succ]; omega
    omega
  have t : n * (n * m) + m * (n * m) = (n + m) * (n * m) := (Nat.add_mul _ _ _).symm
  have u : (n + m) * (n * m) ≤ 25 * 24 := Nat.mul_le_mul s h
  omega
end Z

set_option Elab.async false
set_option linter.all false
set_option maxRecDepth 100000
namespace Z
open PySem L2
variable [TabsP]
/-- a name's list is given away: it is frozen from here on -/
def dGive (i : Nat) : DT := fun ρ P => match ρ[i]? with
  | some (some o) => P (.dat o.frz) (ρ.set i (some (.dat o.frz)))
  | _ => False
theorem de_give {X : Cx} {B : Bs} {e : Expr} {i : Nat} (h : PE X e (tVar i)) : DE X B e (tVar i) (dGive i) := by
  refine ⟨h, fun F ρ σ H P Q l w k => ?_⟩
  unfold dGive at w
  cases e1 : ρ[i]? with
  | none => rw [e1] at w; exact w.elim
  | some o =>
    cases o with
    | none => rw [e1] at w; exact w.elim
    | some o =>
      rw [e1] at w
      obtain ⟨v, ev, rv⟩ := l.var i o e1
      obtain ⟨F2, s2, l2, rv2⟩ := l.mv (r := .var i) (v := v) ⟨ev, o, e1⟩
      have evl : vl ρ (.var i) = o.frz := by
        show (match ρ[i]? with | some (some o) => o.frz | _ => D.non) = _
        rw [e1]
      have emv : mvE ρ (.var i) = ρ.set i (some (.dat o.frz)) := by
        show ρ.set i (some (.dat (vl ρ (.var i)))) = _
        rw [evl]
      rw [emv] at l2
      rw [evl] at rv2
      refine ⟨v, ev, k (.dat o.frz) v F2 _ H l2 s2 ?_ rv2 w⟩
      rw [← emv]
      exact Kp.mv
/-- a loop over range(n) by an invariant of the place -/
theorem dFor_rg {g : DGT} {tb : DST} {E : DEnds} {n : Nat} (I : Nat → En → Prop) (h0 : ∀ ρ, I n ρ → E.nx ρ)
    (h1 : ∀ i, i < n → ∀ (C : En → Prop) ρ, I i ρ → (∀ ρ', I (i + 1) ρ' → C ρ') → g (.int (i : Nat)) ρ fun ρ1 => tb { E with nx := C, ct := C, bk := E.nx } ρ1) {ρ : En} (h : I 0 ρ) : dForL g tb E (nsD (List.range n)) ρ := by
  refine dFor_ind (fun ds ρ => ∃ i : Nat, ds = nsD ((List.range n).drop i) ∧ i ≤ n ∧ I i ρ) ?_ ?_ _ _ ⟨0, rfl, Nat.zero_le _, h⟩
  · rintro ρ ⟨i, e, hi, q⟩
    have : ((List.range n).drop i).length = 0 := by
      have := congrArg List.length e
      rw [nsD_len] at this
      exact this.symm
    rw [List.length_drop, List.length_range] at this
    obtain rfl : i = n := by omega
    exact h0 ρ q
  · rintro d ds C ρ ⟨i, e, hi, q⟩ hC
    have hlt : i < n := by
      have := congrArg List.length e
      rw [nsD_len, List.length_drop, List.length_range, List.length_cons] at this
      omega
    rw [List.drop_eq_getElem_cons (by rw [List.length_range]; exact hlt)] at e
    have e : d :: ds = nD ((List.range n)[i]'(by rw [List.length_range]; exact hlt)) :: nsD ((List.range n).drop (i + 1)) := e
    cases e
    rw [List.getElem_range]
    exact h1 i hlt C ρ q fun ρ' h' => hC ρ' ⟨i + 1, rfl, hlt, h'⟩
/-! ## the part of an order that is kept -/
def keptB (A : Nat → Nat → Bool) (ks : List Nat) (x y : Nat) : Bool := A (ks.getD x 0) (ks.getD y 0)
structure KeptOk (n : Nat) (A : Nat → Nat → Bool) (ks : List Nat) : Prop where
  one : 1 ≤ ks.length
  most : ks.length ≤ 24
  lt : ∀ k ∈ ks, k < n
  nd : ks.Nodup
  ls : ∀ k ∈ ks, A (ks.getD 0 0) k = true
theorem getD_mem {ks : List Nat} {x : Nat} (h : x < ks.length) : ks.getD x 0 ∈ ks := by
  rw [List.getD_eq_getElem?_getD, List.getElem?_eq_getElem h]
  exact List.getElem_mem h
theorem getD_inj {ks : List Nat} (nd : ks.Nodup) {x y : Nat} (hx : x < ks.length) (hy : y < ks.length) (e : ks.getD x 0 = ks.getD y 0) : x = y := by
  rw [List.getD_eq_getElem?_getD, List.getElem?_eq_getElem hx, List.getD_eq_getElem?_getD, List.getElem?_eq_getElem hy] at e
  exact (List.getElem_inj nd).mp e
theorem PO.kept {n : Nat} {A : Nat → Nat → Bool} {ra : Nat → Nat} {ks : List Nat} (p : PO n A ra) (k : KeptOk n A ks) : PO ks.length (keptB A ks) (fun x => ra (ks.getD x 0)) := by
  have lt : ∀ x, x < ks.length → ks.getD x 0 < n := fun x hx => k.lt _ (getD_mem hx)
  refine ⟨k.one, k.most, fun x hx => p.rf _ (lt x hx), fun x y z hx hy hz h1 h2 => p.tr _ _ _ (lt x hx) (lt y hy) (lt z hz) h1 h2, fun y hy => k.ls _ (getD_mem hy), fun x y hx hy ne h1 => p.up _ _ (lt x hx) (lt y hy) (fun e => ne (getD_inj k.nd hx hy e)) h1⟩
def edgesRow (c : Nat → Nat → Bool) (n k : Nat) : List (Nat × Nat) := (List.range k).flatMap fun x => (fl n (c x)).map fun y => (x, y)
/-- row by row, the couples (x, y) with c x y -/
theorem edges_row {c : Nat → Nat → Bool} {n x : Nat} (hx : x < n) : (edgesRow c n (x + 1)) = edgesRow c n x ++ (fl n (c x)).map fun y => (x, y) := by
  unfold edgesRow
  rw [List.range_succ, List.flatMap_append]
  simp
end Z

set_option Elab.async false
set_option linter.all false
set_option maxRecDepth 100000
namespace Z
open PySem L2
variable [TabsP]
local macro_rules | `(tactic| walk_at "d") => `(tactic| simp only [dSq, dIf, dOr, dAnd, dNot, dTT, dTB, dUn, dBin, dVar, dC, dRet, dNext, dOrV, dAndV, dNotT, dIfE, isiD, OV.isOwn, startD, List.map_cons, List.map_nil, List.cons_append, List.nil_append, List.append_nil, List.length_cons, List.length_nil, List.replicate, Nat.reduceAdd, Nat.reduceSub, Nat.sub_self, Nat.add_sub_cancel,
  List.getElem?_cons_zero, List.getElem?_cons_succ, bOk, iv_d, iv_n, iv_v, nr_d, nr_n, List.any_cons, List.any_nil, Bool.or_false, Bool.or_true, Bool.false_eq_true, Bool.not_true, Bool.not_false, false_implies, true_and, and_true, if_true, if_false, ite_true, ite_false, forall_const, reduceIte, reduceCtorEq,
  d0_1, dI_1, ad_i, ad_t, ad_l, ng_1, dCa, dCall0, dCons, dNil, dTup, dLst, dEq, dSeq, dRange, dEnum, dRg1, dRg2, dListRg, dTupRg, dSl, dONone, dOSome, dCall, mv_d, mv_n, mv_v, nn_n, nn_b, nn_i, nn_s, nn_l, nn_t, nn_x, nn_d, dSetF, dSetO, dDrop, dFor, dgName, dgTup, dgCons, dgNil, dRetN, dYes, it_1, pm_1, nmR, dXf, dIsE, sq_l, sq_t, sq_x, tr_n, tr_b, tr_i, tr_l, tr_t, tr_x, tr_d, vl_d, vl_n, vl_v, fr_d, fr_o, fr_k, sl_l, sl_t, sl_x, le_1, li_1, tu_1, tu_l, tu_t, tu_x, tx_1, tx_l, tx_t, tx_x, rr_d, rr_n, rr_v, in_1, ix_1, dt_1, isB_1, dCallT, dIdx, dRaise, dAsg, dDnew, List.set_cons_zero, List.set_cons_succ, noOwnAt, List.all_cons, List.all_nil, wipeE, lent, hasOwn, Option.map_some, Option.map_none, dLc, lt_n, pl_n, tyB_n, tyI_n, tyS_n, tyL_n, tyT_n, lt_b, pl_b, tyB_b, tyI_b, tyS_b, tyL_b, tyT_b, lt_i, pl_i, tyB_i, tyI_i, tyS_i, tyL_i, tyT_i, lt_s, pl_s, tyB_s, tyI_s, tyS_s, tyL_s, tyT_s, lt_l, pl_l, tyB_l, tyI_l, tyS_l, tyL_l, tyT_l, lt_t, pl_t, tyB_t, tyI_t, tyS_t, tyL_t, tyT_t, lt_x, pl_x, tyB_x, tyI_x, tyS_x, tyL_x, tyT_x, lt_d, pl_d, tyB_d, tyI_d, tyS_d, tyL_d, tyT_d, noL, noLA, Bool.and_true, Bool.true_and])
local macro_rules | `(tactic| walk_at "e") => `(tactic| first | exact ⟨_, rfl, rfl⟩ | rfl)
abbrev s_bm : Stmt := inClass (top 4) 0
abbrev s_many : Stmt := top 22
section
variable {P : Program} {w : World} {K : PySem.W.Frag} {mg : Str → Option Value} {base : Heap}
theorem sc_bm : FnScope ["self", "what", "at"] ["self", "what", "at"] (defScope s_bm) := ⟨rfl, rfl, rfl, by decide +kernel, rfl, by decide +kernel, by decide +kernel⟩
theorem sc_many : FnScope ["n"] ["n"] (defScope s_many) := ⟨rfl, rfl, rfl, by decide +kernel, rfl, by decide +kernel, by decide +kernel⟩
theorem ok_bm {f C : Addr} {fd : FuncData} (F : Fun K "__init__" "BadMake.__init__" s_bm f fd) (ox : OexC K C) (n1 : PySem.W.findIn K (.ref C) "what" = some none) (n2 : PySem.W.findIn K (.ref C) "at" = some none) : FnOk P w K mg base CX0 1 f fd ["self", "what", "at"] (spEx C ["what", "at"]) :=
  ok_ex2 F sc_bm ox n1 n2 rfl fun cdv A outer s H E => pss_cons (ps_ost (pv 0) (pv 1)) (pss_one (ps_ost (pv 0) (pv 2)))
def bmX (what : Str) : List (Str × D) := [("at", .int 0), ("what", .str what)]
def wMany (bm : Addr) : DW := fun ds Q ex => ∃ n : Nat, ds = [.int (n : Int)] ∧ (n ≤ 24 → Q (.dat .non)) ∧ (24 < n → ex bm (bmX "many"))
theorem ok_many {bm f : Addr} {fd : FuncData} (F : Fun K "_check_many" "_check_many" s_many f fd) (T : Bl mg) (g24 : ∃ t, mg "MOST_STATES" = some (.int 24 t)) (xBadMake : ExK P w K mg base "BadMake" bm ["what", "at"]) :
    FnOk P w K mg base (L2.CX P w) 3 f fd ["n"] (spD K (wMany bm)) := by
  obtain ⟨t24, g24⟩ := g24
  refine okDX F sc_many (fun ds Q ex h => ?_) (fun cdv A outer s H E hr md F0 a0 ex hl => ⟨_, _,
      (dss_one (ds_if (dt_cmp op_gt opd_B0 (de_var (pv 0)) (de_cst (pe_glob (v := .int 24) (by rfl) g24 ⟨_, rfl⟩) fun _ => .int _) (nomark _))
        (dss_one (ds_raise xBadMake (takes_of rfl rfl rfl rfl) rfl (hr.mono (by decide)) (by rfl) (lxt_fn hl) (da_cons de_str (da_cons de_int da_nil))))
        dss_nil))
      , fun ds Q h => ?_⟩)
  · obtain ⟨_, rfl, _⟩ := h
    rfl
  · obtain ⟨n, rfl, h1, h2⟩ := h
    walk_at "d"
    by_cases c : n ≤ 24
    · exact ite_f (by simp; omega) (h1 c)
    · exact ite_t (by simp; omega) ⟨by decide, h2 (by omega)⟩
theorem cmul_s {n : Nat} {j : Int} (h : n ≤ 1000) : CMul (n : Int) j := by
  unfold CMul
  omega
/-- an order's fields -/
theorem fldN {C : Addr} {i n : Nat} {M : Nat → Nat → Bool} {ρ : En} {Q : R → En → Prop} (cl : Cls K C) (na : ∀ f ∈ ordNs, NoAttr K C f) (e : ρ[i]? = some (some (.dat (ordV C n M)))) (h : Q (.dat (.int (n : Int))) ρ) : dFld K "n" (dVar i) ρ Q := by
  unfold dFld dVar
  rw [e]
  exact ⟨C, _, _, _, rfl, cl, na _ (by simp [ordNs]), rfl, h⟩
theorem fldE {C : Addr} {i n : Nat} {M : Nat → Nat → Bool} {ρ : En} {Q : R → En → Prop} (cl : Cls K C) (na : ∀ f ∈ ordNs, NoAttr K C f) (e : ρ[i]? = some (some (.dat (ordV C n M)))) (h : Q (.dat (.tup ((edgesL n (covB n M)).map cpD))) ρ) : dFld K "edges" (dVar i) ρ Q := by
  rw [← edg_cps] at h
  unfold dFld dVar
  rw [e]
  exact ⟨C, _, _, _, rfl, cl, na _ (by simp [ordNs]), rfl, h⟩
theorem edges_le (c : Nat → Nat → Bool) (n : Nat) : (edgesL n c).length ≤ n * n := by
  have : ∀ l : List Nat, (l.flatMap fun x => (fl n (c x)).map fun y => (x, y)).length ≤ l.length * n := fun l => by
    induction l with
    | nil => simp
    | cons x l ih =>
      rw [List.flatMap_cons, List.length_append, List.length_map, List.length_cons, Nat.succ_mul]
      have : (fl n (c x)).length ≤ n := Nat.le_trans (List.length_filter_le _ _) (by rw [List.length_range]; exact Nat.le_refl _)
      omega
  have := this (List.range n)
  rw [List.length_range] at this
  exact this
theorem fm_len {α β : Type} {f : α → List β} {k : Nat} (h : ∀ a, (f a).length = k) : ∀ l : List α, (l.flatMap f).length = l.length * k
  | [] => by simp
  | a :: l => by rw [List.flatMap_cons, List.length_append, h a, fm_len h l, List.length_cons, Nat.succ_mul]; omega
theorem at_ns {l : List Nat} {i x : Nat} (h : l[i]? = some x) : atI (nsD l) (i : Int) = some (nD x) := by
  refine L2.atI_nat ?_
  unfold nsD
  rw [List.getElem?_map, h]
  rfl
theorem PO.few {n : Nat} {B : Nat → Nat → Bool} {rk : Nat → Nat} (p : PO n B rk) : (edgesL n (covB n (sB B))).length ≤ 276 := by
  rw [edges_congr fun x y hx hy => p.cov0 hx hy]
  exact Nat.le_trans cv_le p.count
theorem in_ab {n x y : Nat} {M : Nat → Nat → Bool} (hy : y < n) : inD (nD y) (nsD (abL n M x)) = M x y := by
  unfold nD
  rw [in_ns, Bool.eq_iff_iff, decide_eq_true_eq]
  unfold abL
  rw [List.mem_filter, List.mem_range]
  exact ⟨fun h => h.2, fun h => ⟨hy, h⟩⟩
theorem kept_s {A : Nat → Nat → Bool} {ks : List Nat} (nd : ks.Nodup) {i j : Nat} (hi : i < ks.length) (hj : j < ks.length) : sB A (ks.getD i 0) (ks.getD j 0) = sB (keptB A ks) i j := by
  refine bool_ext ?_
  rw [sB_iff, sB_iff]
  exact ⟨fun h => ⟨fun e => h.1 (by rw [e]), h.2⟩, fun h => ⟨fun e => h.1 (getD_inj nd hj hi e), h.2⟩⟩
theorem row_len (c : Nat → Nat → Bool) (n k : Nat) : (edgesRow c n k).length ≤ k * n := by
  induction k with
  | zero => simp [edgesRow]
  | succ k ih =>
    have : edgesRow c n (k + 1) = edgesRow c n k ++ (fl n (c k)).map fun y => (k, y) := by
      unfold edgesRow
      rw [List.range_succ, List.flatMap_append]
      simp
    rw [this, List.length_append, List.length_map, Nat.succ_mul]
    have : (fl n (c k)).length ≤ n := Nat.le_trans (List.length_filter_le _ _) (by rw [List.length_range]; exact Nat.le_refl _)
    omega
theorem fl_no {p : Nat → Bool} {j : Nat} (e : p j = false) : fl (j + 1) p = fl j p := by
  unfold fl
  rw [List.range_succ, List.filter_append, List.filter_cons, if_neg (by rw [e]; simp), List.filter_nil, List.append_nil]
theorem fl_yes {p : Nat → Bool} {j : Nat} (e : p j = true) : fl (j + 1) p = fl j p ++ [j] := by
  unfold fl
  rw [List.range_succ, List.filter_append, List.filter_cons, if_pos e, List.filter_nil]
end
end Z

set_option Elab.async false
set_option linter.all false
set_option maxRecDepth 100000
set_option maxHeartbeats 2000000
namespace Z
open PySem L2
variable [TabsP]
open PySem.Spec PyProof.Rows LamX
/-! ## a lambda of one parameter: its frame -/
structure Lam1 (sc scope : Scope) (x : Str) : Prop where
  kind : scope.kind = .function
  co : scope.isCoroutine = false
  gen : scope.isGenerator = false
  par : scope.names.lookup x = some .local
  own : ∀ y ∈ scope.names, (y.2 = .local → y.1 = x) ∧ y.2 ≠ .cell
  free : ∀ y ∈ scope.names, y.2 = .free → sc.names.lookup y.1 = some .cell ∨ sc.names.lookup y.1 = some .free
  emp : scope.names.lookup ("" : Str) = none
/-- an outer name that the parameter hides -/
def hideN (x y : Str) : Str := if y = x then ("" : Str) else y
def lam1B (sc scope : Scope) (x : Str) : Bool :=
  decide (scope.kind = .function) && (!scope.isCoroutine && (!scope.isGenerator && (decide (scope.names.lookup x = some .local) && (decide (scope.names.lookup ("" : Str) = none) && scope.names.all fun y =>
    (!decide (y.2 = .local) || decide (y.1 = x)) && (!decide (y.2 = .cell) && (!decide (y.2 = .free) || (decide (sc.names.lookup y.1 = some .cell) || decide (sc.names.lookup y.1 = some .free))))))))
theorem lam1_by {sc scope : Scope} {x : Str} (h : lam1B sc scope x = true) : Lam1 sc scope x := by
  unfold lam1B at h
  simp only [Bool.and_eq_true, Bool.or_eq_true, Bool.not_eq_true', decide_eq_true_eq, decide_eq_false_iff_not, List.all_eq_true] at h
  obtain ⟨h1, h2, h3, h4, h6, h5⟩ := h
  refine ⟨h1, h2, h3, h4, fun y hy => ⟨fun e => ?_, (h5 y hy).2.1⟩, fun y hy e => ?_, h6⟩
  · rcases (h5 y hy).1 with z | z
    · exact absurd e z
    · exact z
  · rcases (h5 y hy).2.2 with z | z
    · exact absurd e z
    · exact z
abbrev lam1Cx (X : Cx) (A : Around) (outer : List PySem.Env) (s : Shared) (H : Hp) (E : XK) (scope : Scope) (x : Str) (f c' : Addr) : Cx := { lamCx X A outer s H E scope f c' with N := X.N.map (hideN x) ++ [x] }
section
variable {X : Cx} {pins : List (Addr × Obj)} {σ : L2.St} {H : Hp} {s : Shared} {scope : Scope} {x : Str} {f c' : Addr}
theorem Lam1.has (L : Lam1 X.env.scope scope x) (ok : X.Ok) : ∀ y ∈ scope.names, y.2 = .free → ∃ c, X.env.cells.lookup y.1 = some c := fun y hy e => by
  rcases L.free y hy e with k | k
  · exact ok.has _ (Or.inl k)
  · exact ok.has _ (Or.inr k)
/-- a name that the lambda catches -/
theorem caught (L : Lam1 X.env.scope scope x) (ok : X.Ok) {y : Str} {c : Addr} (e : (cloFrom X.env.cells scope.names []).lookup y = some c) : X.env.cells.lookup y = some c := by
  cases cloFrom_mem (PySem.mem_of_lookup e) with
  | inl z => cases z
  | inr z =>
    obtain ⟨d, hd⟩ := L.has ok _ z.1 rfl
    have hd : X.env.cells.lookup y = some d := hd
    rw [z.2, hd]
    rfl
theorem catches {y : Str} (h : scope.names.lookup y = some .free) : ∃ c, (cloFrom X.env.cells scope.names []).lookup y = some c :=
  mem_lookup (cloFrom_has (acc := []) (cells := X.env.cells) (PySem.mem_of_lookup h))
theorem lam1_start {A : Around} {outer : List PySem.Env} {E : XK} {h₁ : Heap} {tk : Nat} {v : V} {u : Value} (I : Inv X pins σ H s) (L : Lam1 X.env.scope scope x) (e0 : Env0 X.prog X.w X.K X.mg X.base A outer s H) (hd : A.handled = none)
    (hns : h₁.Ns s.heap.objs.size fun y => [(x, u)].reverse.lookup y) (kp : ∀ b o, s.heap.get? b = some o → h₁.get? b = some o) (rv : L2.RelV v u) : Inv (lam1Cx X A outer s H E scope x f c') [] (σ ++ [some v]) H { s with heap := h₁, toks := tk } := by
  have cm := fun {y : Str} {c : Addr} e => caught (x := x) (y := y) (c := c) L I.ok e
  have noEx : ∀ b : Addr, b ∉ (lam1Cx X A outer s H E scope x f c').ex := fun b z => by cases z
  have isC : ∀ {c : Addr} {v : Option Value}, s.heap.IsCell c v → h₁.IsCell c v := fun {c v} ⟨o, e1, e2⟩ => ⟨o, kp _ _ e1, e2⟩
  have okX : (lam1Cx X A outer s H E scope x f c').Ok := by
    refine { mod := e0.mod, kind := L.kind, glob := rfl, blt := rfl, above := Nat.le_refl _, inj := fun y z c e1 e2 => I.ok.inj y z c (cm e1) (cm e2), has := ?_, cab := fun y c z _ => ?_, hd := fun _ => hd, frames := Around.frames_deeper e0.frames, stk := Or.inr ⟨rfl, rfl⟩, exf := fun b z => absurd z (noEx b), bs := e0.bs, bsz := e0.bsz, noex := fun b _ _ => noEx b, exfs := fun b z => absurd z (noEx b), funs := e0.funs, frf := e0.frf }
    · intro y hy
      have hy : scope.names.lookup y = some .cell ∨ scope.names.lookup y = some .free := hy
      cases hy with
      | inl hy => exact absurd rfl (L.own _ (PySem.mem_of_lookup hy)).2
      | inr hy => exact catches hy
    · have z : (false : Bool) = true := z
      cases z
  refine ⟨okX, rfl, e0.bare, Un.kept kp, ⟨_, hns, fun i y w e1 e2 e3 => ?_⟩, fun y c e => ?_, e0.hok.fresh (Nat.le_refl _), fun y c e => I.freeC y c (cm e), fun q hq => ?_, e0.hok.kept kp, ?_⟩
  · have e1 : (X.N.map (hideN x) ++ [x])[i]? = some y := e1
    have e3 : scope.names.lookup y = some .local ∨ scope.names.lookup y = some .cell ∨ scope.names.lookup y = some .free := e3
    by_cases hi : i < X.N.length
    · rw [List.getElem?_append_left (by rw [List.length_map]; exact hi), List.getElem?_map] at e1
      rw [List.getElem?_append_left (by rw [I.len]; exact hi)] at e2
      obtain ⟨y0, e10, ey⟩ := Option.map_eq_some_iff.mp e1
      have n0 : y ≠ ("" : Str) := fun z => by
        rw [z, L.emp] at e3
        rcases e3 with z | z | z <;> cases z
      have ny : y ≠ x ∧ y0 = y := by
        unfold hideN at ey
        split at ey
        · exact absurd ey.symm n0
        · rename_i ne
          exact ⟨by rw [← ey]; exact ne, ey⟩
      obtain ⟨ny, ey2⟩ := ny
      have e1 := e10
      rw [ey2] at e1
      rcases e3 with k | k | k
      · exact absurd ((L.own _ (PySem.mem_of_lookup k)).1 rfl) ny
      · exact absurd rfl (L.own _ (PySem.mem_of_lookup k)).2
      · obtain ⟨m, _, hl⟩ := I.loc
        have fr := L.free _ (PySem.mem_of_lookup k) rfl
        have vis : Vis X.env.scope y := Or.inr fr
        obtain ⟨t, r, q⟩ := hl i y w e1 e2 vis
        obtain ⟨c2, h2⟩ := catches (X := X) k
        refine ⟨t, r, Or.inr ⟨Or.inr k, c2, h2, ?_⟩⟩
        rcases q with ⟨q, _⟩ | ⟨_, c3, e4, z⟩
        · have q : X.env.scope.names.lookup y = some .local := q
          rcases fr with z | z
          · have z : X.env.scope.names.lookup y = some .cell := z
            rw [q] at z
            cases z
          · have z : X.env.scope.names.lookup y = some .free := z
            rw [q] at z
            cases z
        · have c4 := cm h2
          rw [e4] at c4
          cases c4
          exact isC z
    · have hl : i = X.N.length := by
        have := (List.getElem?_eq_some_iff.mp e1).1
        rw [List.length_append, List.length_map] at this
        have : i < X.N.length + 1 := this
        omega
      subst hl
      rw [List.getElem?_append_right (by rw [List.length_map]; exact Nat.le_refl _), List.length_map, Nat.sub_self] at e1
      rw [List.getElem?_append_right (by rw [I.len]; exact Nat.le_refl _), I.len, Nat.sub_self] at e2
      cases e1
      cases e2
      refine ⟨u, rv, Or.inl ⟨L.par, ?_⟩⟩
      show ([(x, u)].reverse : List (Str × Value)).lookup x = some u
      simp
  · obtain ⟨w, z⟩ := I.cell y c (cm e)
    exact ⟨w, isC z⟩
  · cases hq
  · show (σ ++ [some v]).length = (X.N.map (hideN x) ++ [x]).length
    rw [List.length_append, List.length_append, List.length_map, I.len]
    rfl
/-- the lambda is called -/
theorem lam1_call {A' : Around} {k : Nat} {params : Arguments} {body : Expr} {pm ctv : Value} {tb : TE} {v : V} {u : Value} {Q : VK} (I : Inv X pins σ H s) (L : Lam1 X.env.scope scope x) (e0 : Env0 X.prog X.w X.K X.mg X.base A' X.stack s H) (hr : Room (k + 1) A')
    (of : s.heap.get? f = some (PySem.W.kla_obj "<lambda>" (X.env.qual ++ "<lambda>") params body scope (cloFrom X.env.cells scope.names []) pm c' ctv))
    (hc : ∃ (oc : Obj) (vs : Array Value) (t : Tok), s.heap.get? c' = some oc ∧ oc.data = .fields vs ∧ vs[1]? = some (.str (X.env.qual ++ "<lambda>") t))
    (hbind : ∀ (q : Str) (cl : List (Str × Addr)) (pm cv ctv w : Value), bindArgs (PySem.W.kla_fn "<lambda>" q params body scope cl pm cv ctv) ⟨[w], []⟩ = pure [(x, w)]) (rv : L2.RelV v u)
    (hb : ∀ (A : Around) (outer : List PySem.Env) (s : Shared) (H : Hp), Room k (A.deeper (lamEnv X scope s.heap.objs.size f c')) → PE (lam1Cx X A outer s H E0 scope x f c') body tb) (h : tb (σ ++ [some v]) H Q) :
    wpAny (model X.prog X.w) A' (call (.ref f) [u]) (EP X pins σ Q) (fun _ _ => False) s := by
  obtain ⟨oc, vs, t, c1, c2, c3⟩ := hc
  have run : codeAny (model X.prog X.w) A' (.call (.ref f) ⟨[u], []⟩) (CR (L2.CX X.prog X.w) X.stack X.prog X.w H s Q E0) s := by
    refine PySem.W.kla_callFunE hr.depth of rfl L.co L.gen rfl ⟨c', oc, vs, t, rfl, c1, c2, c3⟩ ?_
    rw [hbind]
    refine wpAny_pure (wpAny_newFunctionEnv (fun y hy => (L.own y hy).2) (fun y hy => ?_) (fun h₁ hns hsb => ⟨I.nolimit.fresh _ hsb, ?_⟩) L.kind)
    · cases List.mem_singleton.mp hy
      exact L.par
    · have kp : ∀ b o, s.heap.get? b = some o → h₁.get? b = some o := fun b o e => by
        refine hsb.extBut b o (Nat.ne_of_lt (Heap.lt_size e)) ?_
        exact Heap.get?_push_of_some _ e
      have J := lam1_start (E := E0) (f := f) (c' := c') (tk := s.toks + 1) I L e0 hr.hd hns kp rv
      refine PySem.W.kla_codeExpr (wpAny_mono ((hb _ _ s H (hr.deeper _)).run [] _ _ H Q J h) (fun w s' hq => ?_) fun e s' hq => hq)
      obtain ⟨w', H', J', r, q⟩ := hq
      exact ⟨w', H', J'.os, J'.bare, J'.base, J'.hok, r, q⟩
  refine wpAny_call (codeAny_mono run fun r s' hq => ?_)
  cases r with
  | error e =>
    obtain ⟨_, _, _, _, _, _, _, _, _, _, _, _, _, _, _, _, z⟩ := (show L2.CX X.prog X.w X.stack H s E0 e s' from hq)
  | ok fl =>
    cases fl with
    | ret w => exact I.after hq
    | next => exact False.elim hq
    | brk => exact False.elim hq
    | cont => exact False.elim hq
end
end Z

set_option Elab.async false
set_option linter.all false
set_option maxRecDepth 100000
set_option maxHeartbeats 4000000
namespace Z
open PySem L2
variable [TabsP]
open PySem.Spec PyProof.Rows LamX
/-! ## sorted(.., key=lambda x: ..) -/
theorem vals_get : ∀ {xs : List V} {us : List Value}, xs.length = us.length → (∀ (i : Nat) (x : V), xs[i]? = some x → ∃ u, us[i]? = some u ∧ L2.RelV x u) → Vals xs us
  | [], [], _, _ => .nil
  | [], _ :: _, h, _ => by cases h
  | _ :: _, [], h, _ => by cases h
  | x :: xs, u :: us, h, g => by
    obtain ⟨u', e, r⟩ := g 0 x rfl
    cases e
    exact .cons r (vals_get (by simpa using h) fun i y e => g (i + 1) y e)
section
variable {X : Cx} {pins : List (Addr × Obj)} {σ : L2.St} {H : Hp} {s : Shared}
/-- an address that came into being behind the entry -/
structure FreshA (X : Cx) (a : Addr) : Prop where
  above : X.s_0.heap.objs.size ≤ a
  loc : a ≠ X.env.locals
  cell : ∀ x c, X.env.cells.lookup x = some c → c ≠ a
theorem fresh_of (I : Inv X pins σ H s) {a : Addr} (h : s.heap.objs.size ≤ a) : FreshA X a := by
  refine ⟨Nat.le_trans I.sz h, fun z => ?_, fun x c e z => ?_⟩
  · have q := Nat.lt_of_lt_of_le I.lt h
    rw [← z] at q
    exact Nat.lt_irrefl _ q
  · obtain ⟨_, o, ho, _⟩ := I.cell x c e
    have q := Nat.lt_of_lt_of_le (Heap.lt_size ho) h
    rw [z] at q
    exact Nat.lt_irrefl _ q
/-- objects that are not tracked change -/
theorem inv_touchL {ch : List Addr} {h' : Heap} {t' : Nat} (I : Inv X pins σ H s) (fr : ∀ a ∈ ch, FreshA X a ∧ H a = none ∧ ∀ p ∈ X.pn ++ pins, p.1 ≠ a) (k : ∀ b o, b ∉ ch → s.heap.get? b = some o → h'.get? b = some o) : Inv X pins σ H { s with heap := h', toks := t' } := by
  have nl : X.env.locals ∉ ch := fun z => (fr _ z).1.loc rfl
  have nt : ∀ b u, H b = some u → b ∉ ch := fun b u e z => by
    rw [(fr _ z).2.1] at e
    cases e
  refine I.step (g' := s.gens) (d' := s.drawn) (ch := ch) (fun b hb => ?_) (fun b o _ _ h e _ => k b o h e) (fun b o _ _ h e _ => ⟨o.slots, k b o h e⟩) (fun b o _ _ n => n) (fun b o h e => ⟨o, k b o h e⟩) (fun _ _ e => e) (fun _ _ _ e => e) (fun b ps e => ⟨#[], by rw [e]; simp⟩) (fun m hn => ?_) (fun b u e => ?_) I.bare
  · exact ⟨Or.inr (fr b hb).1.above, (fr b hb).1.loc, (fr b hb).1.cell, (fr b hb).2.2⟩
  · obtain ⟨o, es, ep, e, r⟩ := hn
    exact ⟨o, es, ep, k _ o nl e, r⟩
  · refine (I.hok b u e).stay (fun d w hd q => k d w ?_ q) (fun _ q => q) fun _ _ q => q
    rcases hd with z | z
    · rw [z]
      exact nt b u e
    · exact nt d _ z
theorem inv_touch {a : Addr} {h' : Heap} {t' : Nat} (I : Inv X pins σ H s) (fr : FreshA X a) (na : H a = none) (np : ∀ p ∈ X.pn ++ pins, p.1 ≠ a) (k : ∀ b o, b ≠ a → s.heap.get? b = some o → h'.get? b = some o) : Inv X pins σ H { s with heap := h', toks := t' } :=
  inv_touchL (ch := [a]) I (fun b hb => by cases List.mem_singleton.mp hb; exact ⟨fr, na, np⟩) fun b o h e => k b o (fun z => h (by rw [z]; exact List.mem_singleton.mpr rfl)) e
/-- a list not tracked until now -/
theorem inv_take {a : Addr} {xs : List V} {vs : List Value} {n : Nat} (I : Inv X pins σ H s) (na : H a = none) (fr : FreshA X a) (np : ∀ p ∈ X.pn ++ pins, p.1 ≠ a) (ea : s.heap.get? a = some (seqObj "list" vs.toArray n)) (rv : Vals xs vs) (hz : xs.length ≤ sizeLine) : Inv X pins σ (upd H a (.lst xs)) s := by
  have nb : ∀ b u, H b = some u → b ≠ a := fun b u e z => by rw [z, na] at e; cases e
  refine I.step (g' := s.gens) (d' := s.drawn) (t' := s.toks) (h' := s.heap) (ch := [a]) (fun b hb => ?_) (fun b o _ _ _ e _ => e) (fun b o _ _ _ e _ => ⟨o.slots, e⟩) (fun b o h _ n => ?_) (fun b o _ e => ⟨o, e⟩) (fun b xs e => ?_) (fun b o u e => ?_) (fun b ps e => ⟨#[], ?_⟩) (fun m hn => hn) (fun b u e => ?_) I.bare
  · cases List.mem_singleton.mp hb
    exact ⟨Or.inr fr.above, fr.loc, fr.cell, np⟩
  · rw [upd_ne (fun z => h (by rw [z]; exact List.mem_singleton.mpr rfl))]
    exact n
  · rw [upd_ne (nb _ _ e)]; exact e
  · rw [upd_ne (nb _ _ e)]; exact e
  · rw [upd_ne (nb _ _ e), e]; simp
  · by_cases hb : b = a
    · subst hb
      rw [upd_same] at e
      cases e
      exact ⟨hz, vs, n, rv, ea⟩
    · rw [upd_ne hb] at e
      refine (I.hok b u e).stay (fun d w hd q => q) (fun d q => ?_) fun d ys q => ?_
      · rw [upd_ne (nb _ _ q)]; exact q
      · rw [upd_ne (nb _ _ q)]; exact q
/-- the values that are gone through -/
def SrcV (K : PySem.W.Frag) (H : Hp) (a : Addr) (xs : List V) : Prop := SqL K H a xs ∨ ∃ n : Nat, n ≤ 1000000 ∧ H a = some (.rng 0 (n : Int)) ∧ xs = rgV 0 (n : Int)
theorem SrcV.collect {a : Addr} {xs : List V} (h : SrcV X.K H a xs) (I : Inv X pins σ H s) {A : Around} {E : Value → Shared → Prop} (hA : A.handled = none) {Q : List Value → Shared → Prop}
    (k : ∀ (h' : Heap) (tk : Nat) (vs : List Value), Vals xs vs → xs.length ≤ sizeLine → (∀ b o, s.heap.get? b = some o → h'.get? b = some o) → Q vs { s with heap := h', toks := tk }) : wpAny (model X.prog X.w) A (collect (.ref a)) Q E s := by
  rcases h with h | ⟨n, hn, ha, rfl⟩
  · obtain ⟨its, rv, pl, hz⟩ := I.list h
    have hz' : its.length ≤ sizeLine := by rw [← rv.length]; exact hz
    refine collect_list pl.isList ?_ hz'
    refine k _ s.toks its rv hz fun b o e => ?_
    rw [Heap.get?_update_ne _ _ _ _ (Nat.ne_of_lt (Heap.lt_size e))]
    exact Heap.get?_push_of_some _ e
  · obtain ⟨t, u, v, hr⟩ := I.hok a _ ha
    have sm : Builtin.Range.small 0 (n : Int) 1 = true := small_one (by omega) (by omega) (by omega) (by omega)
    have hl : (rgV 0 (n : Int)).length = n := by
      unfold rgV
      rw [List.length_map, List.length_range]
      omega
    have hs : Builtin.Range.rangeSize 0 (n : Int) 1 = (n : Int) := by
      rw [rangeSize_one]
      split <;> omega
    refine collect_range (n := n) hA hr sm hs (by omega) fun h' tk acc kp io => ?_
    refine k h' tk acc.toList ?_ (by rw [hl]; show n ≤ 2 ^ 24; omega) kp
    obtain ⟨i1, i2⟩ := io
    refine vals_get ?_ fun i x e => ?_
    · rw [hl, Array.length_toList, i1]
    · unfold rgV at e
      rw [List.getElem?_map] at e
      cases q : (List.range ((n : Int) - 0).toNat)[i]? with
      | none => rw [q] at e; cases e
      | some j =>
        rw [q] at e
        obtain ⟨hj, e'⟩ := List.getElem?_eq_some_iff.mp q
        rw [List.getElem_range] at e'
        subst e'
        rw [List.length_range] at hj
        have hi : i < acc.toList.length := by
          rw [Array.length_toList, i1]
          omega
        obtain ⟨t1, et⟩ := i2 i acc.toList[i] (by rw [← Array.getElem?_toList, List.getElem?_eq_getElem hi])
        refine ⟨acc.toList[i], List.getElem?_eq_getElem hi, ?_⟩
        cases e
        refine ⟨t1, ?_⟩
        rw [et, show (0 : Int) + (i : Int) * 1 = 0 + ((i : Nat) : Int) by omega]
end
end Z

set_option Elab.async false
set_option linter.all false
set_option maxRecDepth 100000
set_option maxHeartbeats 4000000
namespace Z
open PySem L2
variable [TabsP]
open PySem.Spec PyProof.Rows LamX
open PySem.W (EachIs dataLe AllAlike Sortable)
/-- values by their keys, stable -/
noncomputable def sortBy {α : Type} (xs : List α) (ks : List PyData) : List α := ((xs.zip ks).mergeSort (dataLe false fun p => p.2)).map (·.1)
section
variable {X : Cx} {pins : List (Addr × Obj)} {σ : L2.St} {H : Hp} {s : Shared} {scope : Scope} {x : Str} {f c' : Addr}
theorem each_zip : ∀ {xs : List V} {us : List Value} {ks : List PyData}, Vals xs us → ks.length = xs.length → EachIs (fun u (p : V × PyData) => L2.RelV p.1 u) us (xs.zip ks)
  | [], _, [], h, _ => by cases h; exact .nil
  | x :: xs, _, [], h, e => by cases e
  | [], _, _ :: _, _, e => by cases e
  | x :: xs, _, k :: ks, h, e => by
    cases h with
    | cons a b => exact .cons a (each_zip b (by simpa using e))
theorem vals_each : ∀ {ps : List (V × PyData)} {us : List Value}, EachIs (fun u (p : V × PyData) => L2.RelV p.1 u) us ps → Vals (ps.map (·.1)) us
  | [], _, h => by cases h; exact .nil
  | p :: ps, _, h => by
    cases h with
    | cons a b => exact .cons a (vals_each b)
theorem zip_map2 {α β : Type} : ∀ {xs : List α} {ks : List β}, ks.length = xs.length → (xs.zip ks).map (·.2) = ks
  | [], [], _ => rfl
  | _ :: _, [], h => by cases h
  | [], _ :: _, h => by cases h
  | x :: xs, k :: ks, h => by
    show k :: (xs.zip ks).map (·.2) = _
    rw [zip_map2 (by simpa using h)]
theorem reads_all (I : Inv X pins σ H s) : ∀ {kvs : List V} {us : List Value} {ks : List PyData}, Vals kvs us → DpAll X.K H kvs ks → EachIs (fun u d => ∃ as, Reads s.heap u d as) us ks
  | [], _, _, h, g => by cases h; cases g; exact .nil
  | v :: vs, _, _, h, g => by
    cases h with
    | cons a b =>
      cases g with
      | cons c d => exact .cons (Dp.reads I _ _ _ c a) (reads_all I b d)
theorem vals_snoc {xs : List V} {us : List Value} {v : V} {u : Value} (h : Vals xs us) (r : L2.RelV v u) : Vals (xs ++ [v]) (us ++ [u]) := by
  induction h with
  | nil => exact .cons r .nil
  | cons a _ ih => exact .cons a ih
theorem vals_at {xs : List V} {us : List Value} {i : Nat} {u : Value} (h : Vals xs us) (e : us[i]? = some u) : ∃ v, xs[i]? = some v ∧ L2.RelV v u := by
  induction h generalizing i with
  | nil => simp at e
  | cons a _ ih =>
    cases i with
    | zero =>
      cases e
      exact ⟨_, rfl, a⟩
    | succ i => exact ih (by simpa using e)
/-- the sorting, the lambda made -/
theorem sort_go {k : Nat} {a : Addr} {xs : List V} {params : Arguments} {body : Expr} {pm ctv : Value} {tb : TE} {Q : VK} (W : Nat → List V → Hp → Prop) (I : Inv X pins σ H s) (L : Lam1 X.env.scope scope x) (hA : X.A.handled = none) (hr : Room (k + 3) X.A)
    (of : s.heap.get? f = some (PySem.W.kla_obj "<lambda>" (X.env.qual ++ "<lambda>") params body scope (cloFrom X.env.cells scope.names []) pm c' ctv)) (nf : H f = none) (ff : f ∉ frs X.stack)
    (hbind : ∀ (q : Str) (cl : List (Str × Addr)) (pm cv ctv w : Value), bindArgs (PySem.W.kla_fn "<lambda>" q params body scope cl pm cv ctv) ⟨[w], []⟩ = pure [(x, w)])
    (hb : ∀ (A : Around) (outer : List PySem.Env) (s : Shared) (H : Hp), Room k (A.deeper (lamEnv X scope s.heap.objs.size f c')) → PE (lam1Cx X A outer s H E0 scope x f c') body tb)
    (src : SrcV X.K H a xs) (w0 : W 0 [] H) (wc : ∀ i kvs H, W i kvs H → H c' = some (CodeO c' (X.env.qual ++ "<lambda>")))
    (ws : ∀ i kvs H v, W i kvs H → xs[i]? = some v → tb (σ ++ [some v]) H fun y H' => W (i + 1) (kvs ++ [y]) H')
    (we : ∀ kvs H, W xs.length kvs H → kvs.length = xs.length → ∃ ks, DpAll X.K H kvs ks ∧ ks.length = xs.length ∧ AllAlike ks ∧ Sortable ks ∧ (∀ d ∈ ks, d.depth ≤ 16) ∧ ∀ p, H p = none → Q (.ref p) (upd H p (.lst (sortBy xs ks)))) :
    wpAny (model X.prog X.w) X.A (call (.builtin "sorted") [.ref a] [(Str.ofString "key", .ref f)]) (EP X pins σ Q) X.xe s := by
  refine call_function_entry_kw kind_sorted plain_sorted entry_sorted (ksk_s1 _ _) ?_
  unfold Builtin.«sorted»
  refine wpAny_bind (m := checkCount "sorted" 1 1 _) (wpAny_pure ?_)
  refine wpAny_bind (src.collect I (A := X.A.in1) hA fun h1 tk1 vs rv hz kp1 => ?_)
  have hzv : vs.length ≤ sizeLine := by rw [← rv.length]; exact hz
  have I1 : Inv X pins σ H { s with heap := h1, toks := tk1 } := I.kept kp1
  refine wpAny_bind (wpAny_newList ?_ hzv)
  obtain ⟨l, el⟩ : ∃ l, l = h1.objs.size := ⟨_, rfl⟩
  have kp2 : ∀ b o, h1.get? b = some o → (h1.push (seqObj "list" vs.toArray 0)).get? b = some o := fun b o e => Heap.get?_push_of_some _ e
  have I2 : Inv X pins σ H { s with heap := h1.push (seqObj "list" vs.toArray 0), toks := tk1 } := I1.kept (h' := h1.push (seqObj "list" vs.toArray 0)) kp2
  have hl2 : (h1.push (seqObj "list" vs.toArray 0)).get? l = some (seqObj "list" vs.toArray 0) := by rw [el]; exact Heap.get?_push_size _ rfl
  have nl : H l = none := I1.hok.fresh (by rw [el]; exact Nat.le_refl _)
  have frl : FreshA X l := fresh_of I1 (by rw [el]; exact Nat.le_refl _)
  have npl : ∀ p ∈ X.pn ++ pins, p.1 ≠ l := fun p hp z => by
    have := Heap.lt_size (I1.pin p hp).1
    rw [z, el] at this
    exact Nat.lt_irrefl _ this
  show wpAny _ _ _ _ _ { s with heap := h1.push (seqObj "list" vs.toArray 0), toks := tk1 }
  rw [← el]
  have of2 : (h1.push (seqObj "list" vs.toArray 0)).get? f = some (PySem.W.kla_obj "<lambda>" (X.env.qual ++ "<lambda>") params body scope (cloFrom X.env.cells scope.names []) pm c' ctv) := kp2 _ _ (kp1 _ _ of)
  have nfl : f ≠ l := fun z => by
    rw [z, hl2] at of2
    have z1 : Value.type "list" = Value.type "function" := congrArg Obj.cls (Option.some.inj of2)
    injection z1 with z2
    exact absurd z2 (by decide)
  refine wpAny_bind (wpAny_holding (wpAny_call_entry_kw PyProof.Rows.slot_list_sort ⟨_, hl2, rfl⟩ PyProof.Rows.entry_list_sort ?bd (ksk_l1 _ _)))
  rw [ksk_t1]
  unfold ksk_tree
  refine wpAny_bind (listItems_at hl2 rfl ?_)
  refine wpAny_bind (listUpdate_at hl2 rfl ?_ (by rw [List.size_toArray]; exact hzv) (Nat.zero_le _))
  have sb3 := Heap.SameBut.update (h1.push (seqObj "list" vs.toArray 0)) l (Obj.mapSeq fun _ => (#[] : Array Value))
  obtain ⟨e1, hl3⟩ : ∃ e1, ((h1.push (seqObj "list" vs.toArray 0)).update l (Obj.mapSeq fun _ => (#[] : Array Value))).get? l = some (seqObj "list" #[] e1) := ⟨_, get?_update_seq hl2 fun _ => #[]⟩
  generalize (h1.push (seqObj "list" vs.toArray 0)).update l (Obj.mapSeq fun _ => (#[] : Array Value)) = h3 at sb3 hl3 ⊢
  have I3 : Inv X pins σ H { s with heap := h3, toks := tk1 } := inv_touch (s := { s with heap := h1.push (seqObj "list" vs.toArray 0), toks := tk1 }) (h' := h3) (t' := tk1) I2 frl nl npl fun b o hb e => (sb3.2 b hb).trans e
  have of3 := (sb3.2 f nfl).trans of2
  refine wpAny_bind (seqEpoch_at hl3 rfl ?_)
  refine wpAny_bind (wpAny_newTuple ?_ (by show vs.length ≤ _; exact hzv))
  refine wpAny_bind (wpAny_newList ?_ (Nat.zero_le _))
  refine wpAny_holding ?_
  obtain ⟨h5, e5⟩ : ∃ h5, h5 = h3.push (seqObj "tuple" vs.toArray 0) := ⟨_, rfl⟩
  obtain ⟨q, eq⟩ : ∃ q, q = h5.objs.size := ⟨_, rfl⟩
  have kp5 : ∀ b o, h3.get? b = some o → (h5.push (seqObj "list" #[] 0)).get? b = some o := fun b o e => Heap.get?_push_of_some _ (by rw [e5]; exact Heap.get?_push_of_some _ e)
  have I4 : Inv X pins σ H { s with heap := h5, toks := tk1 } := I3.kept (h' := h5) fun b o e => by rw [e5]; exact Heap.get?_push_of_some _ e
  have I5 : Inv X pins σ H { s with heap := h5.push (seqObj "list" #[] 0), toks := tk1 } := I3.kept (h' := h5.push (seqObj "list" #[] 0)) kp5
  have hq5 : (h5.push (seqObj "list" #[] 0)).get? q = some (seqObj "list" #[] 0) := by rw [eq]; exact Heap.get?_push_size _ rfl
  have hl5 := kp5 _ _ hl3
  have of5 := kp5 _ _ of3
  have nq : H q = none := I4.hok.fresh (by rw [eq]; exact Nat.le_refl _)
  have frq : FreshA X q := fresh_of I4 (by rw [eq]; exact Nat.le_refl _)
  have nlq : q ≠ l := fun z => by
    have := Heap.lt_size hl3
    rw [← z, eq, e5, size_push'] at this
    exact absurd this (Nat.not_lt_of_le (Nat.le_succ _))
  have nfq : f ≠ q := fun z => by
    have := Heap.lt_size of3
    rw [z, eq, e5, size_push'] at this
    exact absurd this (Nat.not_lt_of_le (Nat.le_succ _))
  have npq : ∀ p ∈ X.pn ++ pins, p.1 ≠ q := fun p hp z => by
    have := Heap.lt_size (I4.pin p hp).1
    rw [z, eq] at this
    exact Nat.lt_irrefl _ this
  show wpAny _ _ (ksk_rest l (.ref f) false vs.toArray e1 (.ref (h3.push (seqObj "tuple" vs.toArray 0)).objs.size)) _ _ { s with heap := (h3.push (seqObj "tuple" vs.toArray 0)).push (seqObj "list" #[] 0), toks := tk1 }
  rw [← e5, ← eq]
  have nlsf : l ∉ X.fs := fun z => I1.nofs (by rw [el]; exact Nat.le_refl _) z
  have nqs : q ∉ X.fs := fun z => I4.nofs (by rw [eq]; exact Nat.le_refl _) z
  clear kp5 I1 I2 I3 I4 kp1 kp2 of of2 of3 sb3
  generalize h5.push (seqObj "list" #[] 0) = h6 at I5 hq5 hl5 of5 ⊢
  have nls : f ≠ X.env.locals := fun z => by
    obtain ⟨m, ⟨o, es, ep, e, d, _⟩, _⟩ := I5.loc
    have e : h6.get? X.env.locals = some o := e
    rw [← z, of5] at e
    cases e
    cases d
  have ffs : f ∉ X.fs := fun z => ff (by
    rcases I5.ok.stk with e | ⟨e, _⟩
    · rw [e]; exact z
    · rw [e]
      unfold frs
      rw [List.filterMap_cons]
      split
      · exact z
      · exact List.mem_cons_of_mem _ z)
  obtain ⟨P2, eP⟩ : ∃ P2 : List (Addr × Obj), P2 = [(f, PySem.W.kla_obj "<lambda>" (X.env.qual ++ "<lambda>") params body scope (cloFrom X.env.cells scope.names []) pm c' ctv), (l, seqObj "list" #[] e1)] := ⟨_, rfl⟩
  have repin : ∀ {s' : Shared} {H' : Hp} {kA : Array Value} {e : Nat}, Inv X (pins ++ P2) σ H' s' → s'.heap.get? q = some (seqObj "list" kA e) → H' q = none → Inv X (pins ++ (P2 ++ [(q, seqObj "list" kA e)])) σ H' s' := fun {s' H' kA e} J hq nq => by
    refine J.pins_of fun p hp => ?_
    rcases List.mem_append.mp hp with hp | hp
    · exact J.pin p (List.mem_append_right _ (List.mem_append_left _ hp))
    · rcases List.mem_append.mp hp with hp | hp
      · exact J.pin p (List.mem_append_right _ (List.mem_append_right _ hp))
      · cases List.mem_singleton.mp hp
        exact ⟨hq, nq, frq.loc, nqs, fun v z => by cases z⟩
  have npq2 : ∀ p ∈ X.pn ++ (pins ++ P2), p.1 ≠ q := fun p hp => by
    rcases List.mem_append.mp hp with hp | hp
    · exact npq p (List.mem_append_left _ hp)
    · rcases List.mem_append.mp hp with hp | hp
      · exact npq p (List.mem_append_right _ hp)
      · rw [eP] at hp
        rcases List.mem_cons.mp hp with hp | hp
        · rw [hp]; exact nfq
        · cases List.mem_singleton.mp hp
          exact nlq.symm
  have J0 : Inv X (pins ++ P2) σ H { s with heap := h6, toks := tk1 } := I5.pins_of fun p hp => by
    rcases List.mem_append.mp hp with hp | hp
    · exact I5.pin p (List.mem_append_right _ hp)
    · rw [eP] at hp
      rcases List.mem_cons.mp hp with hp | hp
      · rw [hp]
        exact ⟨of5, nf, nls, ffs, fun v z => by cases z⟩
      · cases List.mem_singleton.mp hp
        exact ⟨hl5, nl, frl.loc, nlsf, fun v z => by cases z⟩
  unfold ksk_rest
  refine wpAny_bind (wpAny_rule ?_)
  first
    | rw [List.forIn_toArray]
    | (rw [← Array.forIn_toList]; simp only [List.toList_toArray])
    | rw [← Array.forIn_toList]
  refine wpAny_bind (ksk_fold (fun i s' => ∃ (kA : Array Value) (e : Nat) (kvs : List V) (H' : Hp), Inv X (pins ++ (P2 ++ [(q, seqObj "list" kA e)])) σ H' s' ∧ Vals kvs kA.toList ∧ kvs.length = i ∧ W i kvs H') vs 0 _ ⟨#[], 0, [], H, repin J0 hq5 nq, .nil, rfl, w0⟩ ?step ?done)
  case step =>
    rintro j u s' hu ⟨kA, e, kvs, H', J, rk, lk, w⟩
    simp only [Nat.zero_add] at lk w ⊢
    have hj := (List.getElem?_eq_some_iff.mp hu).1
    obtain ⟨v, ev, rvv⟩ := vals_at rv hu
    obtain ⟨pf, _⟩ := J.pin (f, PySem.W.kla_obj "<lambda>" (X.env.qual ++ "<lambda>") params body scope (cloFrom X.env.cells scope.names []) pm c' ctv) (by rw [eP]; simp)
    obtain ⟨⟨oc, cvs, t, c1, c2, c3⟩, _⟩ := J.hok c' _ (wc _ _ _ w)
    refine wpAny_bind (wpAny_attempt (wpAny_mono (lam1_call (A' := X.A.in1.in1) J L J.env0.in1.in1 hr.in1.in1 pf ⟨oc, cvs, t, c1, c2, c3⟩ hbind rvv hb (ws j kvs H' v w ev)) (fun y s2 he => ?_) fun _ _ z => z.elim))
    obtain ⟨yv, H2, J2, ry, w2⟩ := he
    try dsimp only
    obtain ⟨pq, nq2, _⟩ := J2.pin (q, seqObj "list" kA e) (by simp)
    have hz2 : kA.size ≤ vs.length := by
      have : kvs.length = kA.size := rk.length.trans Array.length_toList
      omega
    refine wpAny_bind (listUpdate_at pq rfl ?_ (Nat.le_trans hz2 hzv) (Nat.le_trans (Nat.le_of_eq (Array.size_push ..)) (Nat.succ_le_succ (Nat.le_trans hz2 hzv))))
    have sb := Heap.SameBut.update s2.heap q (Obj.mapSeq (·.push y))
    obtain ⟨e2, hq2⟩ : ∃ e2, (s2.heap.update q (Obj.mapSeq (·.push y))).get? q = some (seqObj "list" (kA.push y) e2) := ⟨_, get?_update_seq pq (·.push y)⟩
    have J3 : Inv X (pins ++ P2) σ H2 s2 := J2.pins_of fun p hp => by
      rcases List.mem_append.mp hp with hp | hp
      · exact J2.pin p (List.mem_append_right _ (List.mem_append_left _ hp))
      · exact J2.pin p (List.mem_append_right _ (List.mem_append_right _ (List.mem_append_left _ hp)))
    have J4 := inv_touch (h' := s2.heap.update q (Obj.mapSeq (·.push y))) (t' := s2.toks) J3 frq nq2 npq2 fun b o hb e => (sb.2 b hb).trans e
    have ea : (kA.push y).toList = kA.toList ++ [y] := by simp
    exact wpAny_pure ⟨rfl, kA.push y, e2, kvs ++ [yv], H2, repin J4 hq2 nq2, by rw [ea]; exact vals_snoc rk ry, by rw [List.length_append, lk]; rfl, w2⟩
  case done =>
    rintro s' ⟨kA, e, kvs, H', J, rk, lk, w⟩
    simp only [Nat.zero_add] at lk w
    rw [← rv.length] at lk w
    obtain ⟨pq, nq2, _⟩ := J.pin (q, seqObj "list" kA e) (by simp)
    obtain ⟨pl, nl2, _⟩ := J.pin (l, seqObj "list" #[] e1) (by rw [eP]; simp)
    try dsimp only
    refine wpAny_bind (listItems_at pq rfl ?_)
    obtain ⟨ks, dp, lks, hal, hsk, hdp, fin⟩ := we kvs H' w lk
    have ek := reads_all J rk dp
    have hku : ∀ d, d ∈ ks → X.A.in1.in1.units + d.depth < cLine := fun d hd => by
      have := hdp d hd
      have := hr.in1.in1.un
      omega
    have S := PySem.W.SortsAt.data (prog := X.prog) (w := X.w) (A := X.A.in1.in1) (s := s') ek hal hsk hku
    have gone : ∀ b o, b ≠ q → s'.heap.get? b = some o → (hidT s'.heap fun b => if b = q then some (.lst []) else none).get? b = some o := fun b o hb e => hidT_get e (if_neg hb)
    refine PySem.W.keyH_end (h₁ := hidT s'.heap fun b => if b = q then some (.lst []) else none) (fun b o hb e => (of_hidT e).1) ?_ pq pl nlq S ?_ hzv fun h' tk c kb hl' => ?_
    · cases z : (hidT s'.heap fun b => if b = q then some (.lst []) else none).get? q with
      | none => rfl
      | some o =>
        have := (of_hidT z).2
        rw [if_pos rfl] at this
        cases this
    · have : kvs.length = kA.size := rk.length.trans Array.length_toList
      rw [← this, lk, rv.length]
    · have out : Vals (sortBy xs ks) (PySem.W.sortVals (PySem.W.dataKind s'.heap ks) false kA.toList vs) := by
        refine vals_each (PySem.W.keyedOut_each (rev := false) (R := fun u (p : V × PyData) => L2.RelV p.1 u) (bs := xs.zip ks) (fun p => p.2) ?_ (each_zip rv lks))
        rw [zip_map2 lks]
        exact ⟨s'.heap, kA.toList, hal, rfl, ek⟩
      have J1 : Inv X pins σ H' s' := J.unpinned
      have npl2 : ∀ p ∈ X.pn ++ pins, p.1 ≠ l := npl
      have J2 : Inv X pins σ H' { s' with heap := h', toks := tk } := inv_touchL (ch := [l, q]) J1 (fun b hb => ?_) fun b o hb e => kb b o (fun z => hb (by rw [z]; simp)) (gone b o (fun z => hb (by rw [z]; simp)) e)
      · have lz : (sortBy xs ks).length ≤ sizeLine := by
          have : (sortBy xs ks).length = xs.length := by
            unfold sortBy
            rw [List.length_map, List.length_mergeSort, List.length_zip, lks, Nat.min_self]
          rw [this]; exact hz
        have J3 := inv_take J2 nl2 frl npl2 hl' out lz
        exact ⟨_, rfl, wpAny_pure ⟨_, rfl, .ref l, _, J3, rfl, fin l nl2⟩⟩
      · rcases List.mem_cons.mp hb with hb | hb
        · rw [hb]; exact ⟨frl, nl2, npl2⟩
        · cases List.mem_singleton.mp hb
          exact ⟨frq, nq2, npq⟩
end
end Z

set_option Elab.async false
set_option linter.all false
set_option maxRecDepth 100000
namespace Z
open PySem L2
variable [TabsP]
/-! ## sorted (of a list of numbers), divmod, max and min of two -/
theorem rv_ints {K : PySem.W.Frag} {hd : Option Addr} {F : Hp} : ∀ {ns : List Int} {vs : List V}, RvA K hd F vs (ns.map D.int) → vs = ns.map V.int
  | [], _, h => by cases h; rfl
  | n :: ns, _, h => by
    cases h with
    | cons a b =>
      cases a
      rw [rv_ints b]
      rfl
theorem ints_rv {K : PySem.W.Frag} {hd : Option Addr} {F : Hp} : ∀ ns : List Int, RvA K hd F (ns.map V.int) (ns.map D.int)
  | [] => .nil
  | n :: ns => .cons (.int n) (ints_rv ns)
def dSorted (ds : List D) (P : R → Prop) : Prop := ∃ ns : List Int, ds = [.lst (ns.map D.int)] ∧ ∀ ns' : List Int, ns'.Perm ns → ns'.Pairwise (· ≤ ·) → P (.new (ns'.map D.int))
def dDivmod (ds : List D) (P : R → Prop) : Prop := ∃ i j : Int, ds = [.int i, .int j] ∧ CDiv i j ∧ P (.dat (.tup [.int (i / j), .int (i % j)]))
def dMax2 (ds : List D) (P : R → Prop) : Prop := ∃ i j : Int, ds = [.int i, .int j] ∧ P (.dat (.int (if j > i then j else i)))
def dMin2 (ds : List D) (P : R → Prop) : Prop := ∃ i j : Int, ds = [.int i, .int j] ∧ P (.dat (.int (if j < i then j else i)))
def rDivmod : List V → Hp → VK → Prop := fun xs H Q => ∃ i j, xs = [V.int i, V.int j] ∧ CDiv i j ∧ ∀ (p : Addr), H p = none → Q (V.ref p) (upd H p (HO.tup [V.int (i / j), V.int (i % j)]))
def rMax2 : List V → Hp → VK → Prop := fun xs H Q => ∃ i j, xs = [.int i, .int j] ∧ Q (.int (if j > i then j else i)) H
def rMin2 : List V → Hp → VK → Prop := fun xs H Q => ∃ i j, xs = [.int i, .int j] ∧ Q (.int (if j < i then j else i)) H
section
variable {B : Bs}
theorem cad_sorted : CaD B (rSortedI B.K) dSorted := by
  intro F ρ σ H xs ds P Q l a w k
  obtain ⟨ns, rfl, w⟩ := w
  obtain ⟨v, rfl, r⟩ := a.one
  cases r with
  | lst e ra =>
    obtain rfl := rv_ints ra
    refine ⟨_, ns, rfl, SqL.of (l.sub _ _ e), fun ns' p hp hs hn => ?_⟩
    obtain ⟨l3, n3⟩ := l.newL hn (ints_rv ns')
    exact k (.new _) _ F _ l3 (Same.refl _) n3 (w ns' hp hs)
theorem cad_divmod : CaD B rDivmod dDivmod := by
  intro F ρ σ H xs ds P Q l a w k
  obtain ⟨i, j, rfl, c, w⟩ := w
  cases a with
  | cons a1 a2 =>
    cases a2 with
    | cons a2 a3 =>
      cases a3
      cases a1
      cases a2
      refine ⟨i, j, rfl, c, fun p hp => ?_⟩
      obtain ⟨l3, s3⟩ := l.newF (u := .tup _) hp
      exact k (.dat (.tup _)) _ _ _ l3 s3 (Rv.tup (SqT.of upd_same) (.cons (.int _) (.cons (.int _) .nil))) w
theorem cad_max2 : CaD B rMax2 dMax2 := by
  intro F ρ σ H xs ds P Q l a w k
  obtain ⟨i, j, rfl, w⟩ := w
  cases a with
  | cons a1 a2 =>
    cases a2 with
    | cons a2 a3 =>
      cases a3
      cases a1
      cases a2
      exact ⟨i, j, rfl, k (.dat _) _ F H l (Same.refl _) (.int _) w⟩
theorem cad_min2 : CaD B rMin2 dMin2 := by
  intro F ρ σ H xs ds P Q l a w k
  obtain ⟨i, j, rfl, w⟩ := w
  cases a with
  | cons a1 a2 =>
    cases a2 with
    | cons a2 a3 =>
      cases a3
      cases a1
      cases a2
      exact ⟨i, j, rfl, k (.dat _) _ F H l (Same.refl _) (.int _) w⟩
end
section
variable {X : Cx}
theorem ksorted (K : PySem.W.Frag) (h : X.K = K := by rfl) : CallR X (.builtin "sorted") (rSortedI K) := by
  rw [← h]
  exact cr_sortedI
theorem kdivmod : CallR X (.builtin "divmod") rDivmod := call_divmod
theorem kmax2 (hc : X.calm = true) : CallR X (.builtin "max") rMax2 := call_max2 hc
theorem kmin2 (hc : X.calm = true) : CallR X (.builtin "min") rMin2 := call_min2 hc
end
section
variable {X : Cx} {B : Bs} {tg iter elt : Expr} {ifs : List Expr} {scope : Scope} {own : List (Str × Nat)} {pos : Pos} {wi : TI} {g : TG} {tt : TT} {te' : TE} {sl : List Nat} {ti : DIT} {dg : DGT} {dt : DBT} {de : DT}
/-- x = [..], and x is changed later -/
theorem ds_lcW {i : Nat} {y : Str} {py spos : Pos} (hc : X.calm = true) (hN : X.N.Nodup) (hy : X.N[i]? = some y) (hyl : X.env.scope.names.lookup y = some .local)
    (hsw : swapsWith (.ListComp elt [⟨tg, iter, ifs, 0⟩] scope pos) (some (.Name y py)) spos.line X.env = pure true) (hi : DI X B tg iter wi ti) (ok : BlkOk X.N X.env.scope scope own)
    (hg : ∀ (F0 H0 : Hp) (a0 : ∀ p, B.md = some p → ¬ NoO H0 p.2) (s : Shared) (H : Hp) (C : Addr) (cl : List (Str × Addr)) (fp : List Addr), DG (X.blk s H scope (compEnvC scope cl C X.env) fp) ⟨B.K, B.md, F0, H0, a0⟩ tg sl g dg)
    (ht : ∀ (F0 H0 : Hp) (a0 : ∀ p, B.md = some p → ¬ NoO H0 p.2) (s : Shared) (H : Hp) (C : Addr) (cl : List (Str × Addr)) (fp : List Addr), DPs (X.blk s H scope (compEnvC scope cl C X.env) fp) ⟨B.K, B.md, F0, H0, a0⟩ ifs tt dt)
    (he : ∀ (F0 H0 : Hp) (a0 : ∀ p, B.md = some p → ¬ NoO H0 p.2) (s : Shared) (H : Hp) (C : Addr) (cl : List (Str × Addr)) (fp : List Addr), DE (X.blk s H scope (compEnvC scope cl C X.env) fp) ⟨B.K, B.md, F0, H0, a0⟩ elt te' de)
    (hsl : ∀ j ∈ sl, j ∈ own.map (·.2)) (s0 : Shared) (hs : ∀ x, foldedSetIterable iter X.env x = pure x := by intro _; rfl) : DS X B (.Assign [.Name y py] (.ListComp elt [⟨tg, iter, ifs, 0⟩] scope pos) spos) (tAsg (tLc wi g tt te' (own.map (·.2))) (gName i)) (dSetO i (dLc (own.map (·.2)) ti dg dt de)) := by
  refine ⟨ps_setLc hc hN hy hyl hsw hi.pi ok (fun s H C cl fp => ?_) (fun s H C cl fp => ?_) (fun s H C cl fp => ?_) hs, sim_setO (lc_sim hi.sim hsl (fun F0 H0 a0 => (hg F0 H0 a0 s0 H0 0 [] []).sim) (fun F0 H0 a0 => (ht F0 H0 a0 s0 H0 0 [] []).sim) (fun F0 H0 a0 => (he F0 H0 a0 s0 H0 0 [] []).sim))⟩
  · exact (hg B.F0 B.H0 B.a0 s H C cl fp).pg
  · exact (ht B.F0 B.H0 B.a0 s H C cl fp).pts
  · exact (he B.F0 B.H0 B.a0 s H C cl fp).pe
end
end Z

set_option Elab.async false
set_option linter.all false
set_option maxRecDepth 100000
set_option maxHeartbeats 1200000
namespace Z
open PySem L2
variable [TabsP]
open PySem.Spec PyProof.Rows
/-! ### sorted() of a tuple of numbers -/
def rSortedTI (K : PySem.W.Frag) : List V → Hp → VK → Prop := fun vs H Q => ∃ (a : Addr) (ns : List Int), vs = [.ref a] ∧ SqT K H a (ns.map V.int) ∧ ∀ (ns' : List Int) (p : Addr), ns'.Perm ns → ns'.Pairwise (· ≤ ·) → H p = none → Q (.ref p) (upd H p (.lst (ns'.map V.int)))
theorem vals_intsZ : ∀ {ns : List Int} {us : List Value}, Vals (ns.map V.int) us → PySem.W.EachIs (fun v (n : Int) => ∃ t, v = Value.int n t) us ns
  | [], _, h => by cases h; exact .nil
  | n :: ns, _, h => by
    cases h with
    | cons a b => exact .cons a (vals_intsZ b)
theorem ints_valsZ : ∀ {ns : List Int} {us : List Value}, PySem.W.EachIs (fun v (n : Int) => ∃ t, v = Value.int n t) us ns → Vals (ns.map V.int) us
  | [], _, h => by cases h; exact .nil
  | n :: ns, _, h => by
    cases h with
    | cons a b => exact .cons a (ints_valsZ b)
theorem cr_sortedTI {X : Cx} (hu : X.A.units + 65 < cLine) : CallR X (.builtin "sorted") (rSortedTI X.K) := by
  intro pins s σ H xs us Q I r h
  obtain ⟨a, ns, rfl, hq, k⟩ := h
  obtain ⟨u, rfl, rx⟩ := vals1 r
  cases rx
  obtain ⟨its, vv, ⟨o, ho, hc, n, hd⟩, hz⟩ := I.tuple hq
  have zl : its.length ≤ sizeLine := by rw [← vv.length]; exact hz
  refine Calls.call_function_entry kind_sorted plain_sorted entry_sorted (args_sorted1 _) ?_
  unfold Builtin.sorted
  refine wpAny_bind (m := checkCount "sorted" 1 1 1) (wpAny_pure ?_)
  refine wpAny_bind (wpAny_collect_seq a (T := "tuple") (.inr rfl) ho hc hd (fun h' keep => ?_) (by simpa using zl))
  refine wpAny_bind (wpAny_newList ?_ (by simpa using zl))
  have I1 : L2.Inv X pins σ H ⟨h', s.gens, s.drawn, s.toks, s.os⟩ := I.kept (t' := s.toks) keep
  have hn : H h'.objs.size = none := I1.hok.fresh (Nat.le_refl _)
  have I2 := I1.lnew (its := its) (ys := ns.map V.int) (t' := s.toks) vv hz
  have le1 : (PySem.W.dataLe false fun b : Int => PyData.int b) = fun a b => decide (a ≤ b) := PySem.W.dataLe_int (fun b : Int => b)
  have g0 : (h'.push { cls := Value.type "list", data := Data.seq its.toArray }).get? h'.objs.size = some { cls := Value.type "list", data := Data.seq its.toArray } := Heap.get?_push_size _ rfl
  have ev := vals_intsZ vv
  refine wpAny_bind (wpAny_holding (PySem.W.list_sort_data (vs := its) (bs := ns) (enc := PyData.int) (R := fun v n => ∃ t, v = Value.int n t) (n := 0) (a := h'.objs.size) g0 ev ?_ ?_ ?_ ?_ ?_ fun out hl he => ?_))
  · have reads : ∀ {us : List Value} {ms : List Int} (h : Heap), PySem.W.EachIs (fun v (n : Int) => ∃ t, v = Value.int n t) us ms → PySem.W.EachIs (fun v b => ∃ as, Reads h v (PyData.int b) as ∧ ¬ h'.objs.size ∈ as) us ms := fun h e => by
      induction e with
      | nil => exact .nil
      | cons a b ih =>
        obtain ⟨t, rfl⟩ := a
        exact .cons ⟨[], .int _ _, by simp⟩ ih
    exact reads _ ev
  · intro d hd d' hd'
    obtain ⟨x, _, rfl⟩ := List.mem_map.mp hd
    obtain ⟨y, _, rfl⟩ := List.mem_map.mp hd'
    rfl
  · exact .inr fun d hd => by
      obtain ⟨x, _, rfl⟩ := List.mem_map.mp hd
      exact ⟨fun z => (by cases z), fun xs z => (by cases z)⟩
  · have := vv.length
    rw [List.length_map] at this
    rw [this]
    exact zl
  · intro b hb
    show X.A.in1.units + 1 + _ < cLine
    simp [PyData.depth]
    omega
  · rw [le1] at he
    refine wpAny_pure ⟨_, rfl, ?_⟩
    have vo := ints_valsZ he
    have zo : (((ns.mergeSort fun a b => decide (a ≤ b)).map V.int)).length ≤ sizeLine := by
      rw [List.length_map, List.length_mergeSort]
      have := hz
      rw [List.length_map] at this
      exact this
    have I3 := I2.lset (l := h'.objs.size) (xs := ns.map V.int) (ys := []) (its := its) (its' := []) (n := 0) (f := fun _ => #[]) (t' := s.toks) upd_same g0 rfl .nil (Nat.zero_le _)
    have I4 := I3.kept (t' := s.toks) (fun b u e => Heap.get?_push_of_some (PyProof.Rows.seqObj "tuple" its.toArray 0) e)
    have I5 := I4.kept (t' := s.toks) (fun b u e => Heap.get?_push_of_some (PyProof.Rows.seqObj "list" #[] 0) e)
    obtain ⟨_, its0, n0, vv0, _, g5⟩ := I5.lstM upd_same
    have I6 := I5.lset (l := h'.objs.size) (xs := []) (ys := (ns.mergeSort fun a b => decide (a ≤ b)).map V.int) (its := its0) (its' := out) (n := n0) (f := fun _ => out.toArray) (t' := s.toks) upd_same g5 rfl vo zo
    have e6 : upd (upd (upd H h'.objs.size (.lst (ns.map V.int))) h'.objs.size (.lst [])) h'.objs.size (.lst ((ns.mergeSort fun a b => decide (a ≤ b)).map V.int)) = upd H h'.objs.size (.lst ((ns.mergeSort fun a b => decide (a ≤ b)).map V.int)) := by
      funext b
      by_cases hb : b = h'.objs.size
      · subst hb
        rw [upd_same, upd_same]
      · rw [upd_ne hb, upd_ne hb, upd_ne hb, upd_ne hb]
    rw [e6] at I6
    refine ⟨.ref h'.objs.size, _, I6, rfl, k _ _ (List.mergeSort_perm _ _) ?_ hn⟩
    have := List.pairwise_mergeSort (le := fun a b : Int => decide (a ≤ b)) (fun a b c h1 h2 => by simp at *; omega) (fun a b => by simp; omega) ns
    exact this.imp fun h => by simpa using h
/-- of a list or a tuple -/
def rSortedS2 (K : PySem.W.Frag) : List V → Hp → VK → Prop := fun vs H Q => rSortedI K vs H Q ∨ rSortedTI K vs H Q
theorem cr_sorted2 {X : Cx} (K : PySem.W.Frag) (hu : X.A.units + 65 < cLine) (h : X.K = K := by rfl) : CallR X (.builtin "sorted") (rSortedS2 K) := by
  subst h
  intro pins s σ H xs us Q I r h
  rcases h with h | h
  · exact cr_sortedI pins s σ H xs us Q I r h
  · exact cr_sortedTI hu pins s σ H xs us Q I r h
def dSorted2 (ds : List D) (P : R → Prop) : Prop := ∃ (x : D) (ns : List Int), ds = [x] ∧ seqOfD x = some (ns.map D.int) ∧ ∀ ns' : List Int, ns'.Perm ns → ns'.Pairwise (· ≤ ·) → P (.new (ns'.map D.int))
theorem cad_sorted2 {B : Bs} : CaD B (rSortedS2 B.K) dSorted2 := by
  intro F ρ σ H xs ds P Q l a w k
  obtain ⟨x, ns, rfl, sq, w⟩ := w
  obtain ⟨v, rfl, r⟩ := a.one
  have fin : ∀ (ns' : List Int) (p : Addr), ns'.Perm ns → ns'.Pairwise (· ≤ ·) → H p = none → Q (.ref p) (upd H p (.lst (ns'.map V.int))) := fun ns' p hp hs hn => by
    obtain ⟨l3, n3⟩ := l.newL hn (ints_rv ns')
    exact k (.new _) _ F _ l3 (Same.refl _) n3 (w ns' hp hs)
  cases x <;> simp only [seqOfD] at sq <;> first | cases sq | skip
  · cases r with
    | lst e ra =>
      obtain rfl := rv_ints ra
      exact .inl ⟨_, ns, rfl, SqL.of (l.sub _ _ e), fin⟩
  · cases r with
    | tup e ra =>
      obtain rfl := rv_ints ra
      exact .inr ⟨_, ns, rfl, Same.sqT l.sub e, fin⟩
  · cases r with
    | tpx e e9 ra =>
      obtain rfl := rv_ints ra
      exact .inr ⟨_, ns, rfl, .inl (.inr ⟨_, l.sub _ _ e⟩), fin⟩
theorem room65 {A : Around} {k : Nat} (hr : Room k A) : A.units + 65 < cLine := by
  have := hr.un
  omega
end Z

set_option Elab.async false
set_option linter.all false
set_option maxRecDepth 100000
namespace Z
open PySem L2
variable [TabsP]
/-! ### isinstance(x, list) where x may be an object -/
structure ObjK (K : PySem.W.Frag) (C : Addr) : Prop where
  cl : Cls K C
  cc : PySem.W.findIn K (.ref C) "__class__" = some (some (.builtin "object.__class__"))
  cg : PySem.W.specialIn K (.builtin "object.__class__") "__get__" = some (some (.builtin "getset_descriptor.__get__"))
  ct : PySem.W.takesIn K (.builtin "object.__class__") = some true
  cm : PySem.W.mroIn K C (.type "object") = some true
def isiDO (K : PySem.W.Frag) (τ : Ty5) (d : D) (P : R → Prop) : Prop := isiD (isT5 τ) d P ∨ ∃ C ns ds, d = .obj C ns ds ∧ ObjK K C ∧ PySem.W.kitOne K (.ref C) (.type τ.nm) = some false ∧ P (.dat (.bl false))
section
variable {X : Cx} {B : Bs} {e : Expr} {tA : TE} {ta : DT} {pos : Pos}
theorem und_isiO (τ : Ty5) : UnD B (fun x H Q => rIsi B.K [x, .ty τ.nm] H Q) (isiDO B.K τ) := by
  intro F ρ σ H x dx P Q l a w k
  rcases w with w | ⟨C, ns, ds, rfl, o, kt, w⟩
  · exact und_isi τ F ρ σ H x dx P Q l a w k
  · cases a with
    | obj ea en ra => exact ⟨_, _, _, _, _, rfl, .ty _, .base (.ins (l.sub _ _ ea) o.cl o.cc o.cg o.ct o.cm), kt, k (.dat _) _ F H l (Same.refl _) (.bl _) w⟩
theorem de_isiO (K : PySem.W.Frag) (τ : Ty5) {ce : Expr} {p : Pos} (hg : Gl X "isinstance") (hm : X.mg "isinstance" = none) (h : DE X B e tA ta) (hc : PE X ce (tC (.ty τ.nm))) (hK : X.K = B.K := by rfl) (hB : B.K = K := by rfl)
    (he : starEach [e, ce] X.env = (false, eval e X.env) :: starEach [ce] X.env := by rfl) (he2 : starEach [ce] X.env = (false, eval ce X.env) :: starEach [] X.env := by rfl) (hpl : (backTo pos (starEach [ce] X.env)).any (·.1) = false := by rfl) :
    DE X B (.Call (.Name "isinstance" p) [e, ce] [] pos) (tCB (rIsi K) (tCons tA (tCons (tC (.ty τ.nm)) tNil))) (dUn (isiDO K τ) ta) := by
  subst hB
  refine ⟨pe_callB (kisi B.K hK) hg hm (by decide +kernel) (pa_cons h.pe (pa_cons hc pa_nil he2) he) (by decide) (by decide) he hpl, fun F ρ σ H P Q l w k => h.sim.frz F ρ σ H _ _ l w fun r v F' ρ' H' l' s kp rv p => ?_⟩
  exact und_run (und_isiO τ) l' rv p fun r v F2 H2 l2 s2 rv p => k r v F2 ρ' H2 l2 (s.trans s2) kp rv p
end
/-! ### str(n) -/
def dStrI (ds : List D) (P : R → Prop) : Prop := ∃ i : Int, ds = [.int i] ∧ i.natAbs.log2 < 1920 ∧ P (.dat (.str (Str.ofString (toString i))))
def rStrI : List V → Hp → VK → Prop := fun xs H Q => ∃ i, xs = [.int i] ∧ i.natAbs.log2 < 1920 ∧ Q (.str (Str.ofString (toString i))) H
theorem kstrI {X : Cx} : CallR X (.type "str") rStrI := call_str_int
theorem cad_strI {B : Bs} : CaD B rStrI dStrI := by
  intro F ρ σ H xs ds P Q l a w k
  obtain ⟨i, rfl, c, w⟩ := w
  obtain ⟨v, rfl, r⟩ := a.one
  cases r
  exact ⟨i, rfl, c, k (.dat _) _ F H l (Same.refl _) (.str _) w⟩
end Z

set_option Elab.async false
set_option linter.all false
set_option maxRecDepth 100000
set_option maxHeartbeats 4000000
namespace Z
open PySem L2
variable [TabsP]
open PySem.Spec PyProof.Rows LamX
open PySem.W (EachIs dataLe AllAlike Sortable)
/-! ## the call sorted(e, key=lambda x: body) -/
def tSortK (K : PySem.W.Frag) (T : List (Addr × Str)) (q : Str) (tA : TA) (tb : TE) : TE := fun σ H Q => tA σ H fun vs H1 => LamX.Tabs T H1 ∧ ∀ (c' : Addr) (H2 : Hp), ExtN H1 H2 → LamX.Tabs T H2 → H2 c' = some (CodeO c' q) →
  ∃ (a : Addr) (xs : List V) (W : Nat → List V → Hp → Prop), vs = [.ref a] ∧ SrcV K H2 a xs ∧ W 0 [] H2 ∧ (∀ i kvs H, W i kvs H → H c' = some (CodeO c' q)) ∧
    (∀ i kvs H v, W i kvs H → xs[i]? = some v → tb (σ ++ [some v]) H fun y H' => W (i + 1) (kvs ++ [y]) H') ∧
    ∀ kvs H, W xs.length kvs H → kvs.length = xs.length → ∃ ks, DpAll K H kvs ks ∧ ks.length = xs.length ∧ AllAlike ks ∧ Sortable ks ∧ (∀ d ∈ ks, d.depth ≤ 16) ∧ ∀ p, H p = none → Q (.ref p) (upd H p (.lst (sortBy xs ks)))
section
variable {X : Cx} {x nm : Str} {c P : Addr} {k : Nat} {params : Arguments} {body e : Expr} {scope : Scope} {p pos lpos kpos : Pos} {tA : TA} {tb : TE} {T : List (Addr × Str)}
theorem pe_sortK (hg : Gl X "sorted") (hm : X.mg "sorted" = none) (ha : PA X [e] tA) (L : Lam1 X.env.scope scope x) (hr : Room (k + 3) X.A)
    (TB : TabB X.base X.mg c P) (hcode : X.env.code = .ref c) (hmT : (P, X.env.qual ++ "<lambda>") ∈ T) (hu : ∀ p ∈ T, p.1 = P → p.2 = X.env.qual ++ "<lambda>") (hdef : defaultsOf params X.env = ([], []))
    (hbind : ∀ (q : Str) (cl : List (Str × Addr)) (pm cv ctv w : Value), bindArgs (PySem.W.kla_fn "<lambda>" q params body scope cl pm cv ctv) ⟨[w], []⟩ = pure [(x, w)])
    (hb : ∀ (A : Around) (outer : List PySem.Env) (s : Shared) (H : Hp) (f c' : Addr), Room k (A.deeper (lamEnv X scope s.heap.objs.size f c')) → PE (lam1Cx X A outer s H E0 scope x f c') body tb)
    (he : backTo pos (starEach [e] X.env) = (false, eval e X.env) :: backTo pos (starEach [] X.env) := by rfl) (hpl : (backTo pos (starEach [e] X.env)).any (·.1) = false := by rfl) :
    PE X (.Call (.Name "sorted" p) [e] [⟨some "key", .Lambda params body scope lpos, kpos⟩] pos) (tSortK X.K T (X.env.qual ++ "<lambda>") tA tb) := by
  refine ⟨fun pins s σ H Q I h => ?_⟩
  have hA : X.A.handled = none := hr.hd
  refine wpAny_Call_Name_kw (ld_blt (u := .builtin "sorted") I hg hm (by decide +kernel) ?_ (by decide) (by decide))
  refine callWith_kw (e := e) (rest := []) (thn (ha.run pos pins s σ H _ I h) ?_) he hpl (by rfl) (by rfl)
  rintro us s1 ⟨vs, H1, I1, r1, hT, q⟩
  show wpAny _ _ (evalAll [do let v ← eval (.Lambda params body scope lpos) X.env; standAt pos; pure v]) _ _ s1
  refine wpAny_evalAll_cons (wpAny_bind ?_)
  refine lam_make2 I1 TB hcode hmT hu hT hdef (L.has I1.ok) fun f c' pm ctv H2 s2 I2 ex t2 of nf ff hc => ?_
  refine wpAny_bind (wpAny_standAt (wpAny_pure (wpAny_evalAll_nil ?_)))
  obtain ⟨a, xs, W, rfl, src, w0, wc, ws, we⟩ := q c' H2 ex t2 hc
  obtain rfl := Vals.ref1 r1
  exact sort_go W I2 L hA hr of nf ff hbind (fun A outer s H hr => hb A outer s H f c' hr) src w0 wc ws we
/-! ### range(n), a value -/
theorem cr_range1 : CallR X (.type "range") (fun vs H Q => ∃ j, vs = [V.int j] ∧ ∀ p, H p = none → Q (.ref p) (upd H p (.rng 0 j))) := by
  intro pins s σ H vs us Q I r h
  obtain ⟨j, rfl, q⟩ := h
  obtain ⟨u1, rfl, t, rfl⟩ := vals1 r
  refine call_range_1 ⟨.ref s.heap.objs.size, upd H s.heap.objs.size (.rng 0 j), I.laid (t' := s.toks + 2) (fun b o e => Heap.get?_push_of_some _ e) (Nat.le_refl _) ?_, rfl, q _ (I.hok.fresh (Nat.le_refl _))⟩
  exact ⟨s.toks, t, s.toks + 1, Heap.get?_push_size _ rfl⟩
end
end Z

set_option Elab.async false
set_option linter.all false
set_option maxRecDepth 100000
set_option maxHeartbeats 4000000
namespace Z
open PySem L2
variable [TabsP]
open PySem.Spec PyProof.Rows LamX
open PySem.W (EachIs dataLe AllAlike Sortable)
section
variable {B : Bs} {F F' H H' : Hp} {ρ ρ' : En} {σ σ' : L2.St}
theorem Hnd.extN {h a : Addr} (n : Hnd H h a) (e : ExtN H H') : Hnd H' h a := by
  obtain ⟨cs, i, r, t, e1, e2, q⟩ := n.ex
  exact ⟨cs, i, r, t, e _ _ e1 (fun ps z => by cases z), e _ _ e2 (fun ps z => by cases z), q⟩
/-- a lambda is made: tables grow, code objects come -/
theorem Rel.extN (r : Rel B F ρ σ H) (e : ExtN H H') (t : LamX.Tabs TabsP.T H') : Rel B F ρ σ H' := by
  refine ⟨r.len, ⟨fun b o q => e _ _ (r.sub _ _ q) fun ps z => ?_, r.sb.nt, t⟩, r.fro, r.new, fun b o q n nt => e _ _ (r.kept b o q n nt) fun ps z => nt ⟨ps, z⟩, fun p q => ⟨(r.hnd p q).1.extN e, (r.hnd p q).2⟩, fun i o q => ?_, r.ap⟩
  · subst z
    exact r.sb.nt b ps q
  · obtain ⟨v, ev, h⟩ := r.var i o q
    refine ⟨v, ev, h.mono (Same.refl _) fun p u pv w hp => ⟨e _ _ hp fun ps z => h.nt w pv hp ⟨ps, z⟩, ?_⟩⟩
    subst pv
    obtain ⟨p', u', e', _, n', _⟩ := h.own w
    cases e'
    exact n'
theorem Rel.push (r : Rel B F ρ σ H) {v : V} {d : D} (h : Rv B.K B.hd F v d) : Rel B F (ρ ++ [some (.dat d)]) (σ ++ [some v]) H := by
  refine ⟨by rw [List.length_append, List.length_append, r.len]; rfl, r.sb, r.fro, r.new, r.kept, r.hnd, fun i o e => ?_, fun i j o o' w e1 e2 a1 a2 z1 z2 => ?_⟩
  · by_cases hi : i < ρ.length
    · rw [List.getElem?_append_left hi] at e
      obtain ⟨v, ev, hv⟩ := r.var i o e
      exact ⟨v, by rw [List.getElem?_append_left (by rw [← r.len]; exact hi)]; exact ev, hv⟩
    · have hl := (List.getElem?_eq_some_iff.mp e).1
      rw [List.length_append, List.length_singleton] at hl
      have : i = ρ.length := by omega
      subst this
      rw [List.getElem?_append_right (Nat.le_refl _), Nat.sub_self] at e
      cases e
      exact ⟨v, by rw [List.getElem?_append_right (by rw [r.len]; exact Nat.le_refl _), r.len, Nat.sub_self]; rfl, h⟩
  · have low : ∀ {i : Nat} {o : OV}, (ρ ++ [some (.dat d)])[i]? = some (some o) → o.isOwn = true → i < ρ.length := fun {i o} e a => by
      apply Classical.byContradiction
      intro hi
      have hl := (List.getElem?_eq_some_iff.mp e).1
      rw [List.length_append, List.length_singleton] at hl
      have : i = ρ.length := by omega
      subst this
      rw [List.getElem?_append_right (Nat.le_refl _), Nat.sub_self] at e
      cases e
      cases a
    have l1 := low e1 a1
    have l2 := low e2 a2
    rw [List.getElem?_append_left l1] at e1
    rw [List.getElem?_append_left l2] at e2
    rw [List.getElem?_append_left (by rw [← r.len]; exact l1)] at z1
    rw [List.getElem?_append_left (by rw [← r.len]; exact l2)] at z2
    exact r.ap i j o o' w e1 e2 a1 a2 z1 z2
theorem rvA_zip {K : PySem.W.Frag} {hd : Option Addr} : ∀ {l : List ((V × D) × PyData)}, (∀ z ∈ l, Rv K hd F z.1.1 z.1.2) → RvA K hd F (l.map fun z => z.1.1) (l.map fun z => z.1.2)
  | [], _ => .nil
  | z :: l, h => .cons (h z (by simp)) (rvA_zip fun y hy => h y (by simp [hy]))
theorem rvA_mem {K : PySem.W.Frag} {hd : Option Addr} : ∀ {xs : List V} {ds : List D}, RvA K hd F xs ds → ∀ z ∈ xs.zip ds, Rv K hd F z.1 z.2
  | [], _, h, z, hz => by cases hz
  | x :: xs, _, h, z, hz => by
    cases h with
    | cons a b =>
      rcases List.mem_cons.mp hz with rfl | hz
      · exact a
      · exact rvA_mem b z hz
theorem zip3 {α β γ : Type} : ∀ {xs : List α} {ds : List β} {ks : List γ}, ds.length = xs.length → ks.length = xs.length → ((xs.zip ds).zip ks).map (fun z => (z.1.1, z.2)) = xs.zip ks ∧ ((xs.zip ds).zip ks).map (fun z => (z.1.2, z.2)) = ds.zip ks
  | [], [], [], _, _ => ⟨rfl, rfl⟩
  | [], _ :: _, _, h, _ => by cases h
  | [], [], _ :: _, _, h => by cases h
  | _ :: _, [], _, h, _ => by cases h
  | _ :: _, _ :: _, [], _, h => by cases h
  | x :: xs, d :: ds, k :: ks, h1, h2 => by
    obtain ⟨a, b⟩ := zip3 (xs := xs) (ds := ds) (ks := ks) (by simpa using h1) (by simpa using h2)
    exact ⟨congrArg ((x, k) :: ·) a, congrArg ((d, k) :: ·) b⟩
theorem rvA_sort {K : PySem.W.Frag} {hd : Option Addr} {xs : List V} {ds : List D} {ks : List PyData} (h : RvA K hd F xs ds) (hk : ks.length = xs.length) : RvA K hd F (sortBy xs ks) (sortBy ds ks) := by
  obtain ⟨e1, e2⟩ := zip3 (xs := xs) (ds := ds) (ks := ks) h.len.symm hk
  have m1 : sortBy xs ks = (((xs.zip ds).zip ks).mergeSort (dataLe false fun z => z.2)).map fun z => z.1.1 := by
    unfold sortBy
    rw [← e1, ← PySem.W.sort_maps (r := dataLe false fun z => z.2) (fun z : (V × D) × PyData => (z.1.1, z.2)) (fun a _ b _ => rfl), List.map_map]
    rfl
  have m2 : sortBy ds ks = (((xs.zip ds).zip ks).mergeSort (dataLe false fun z => z.2)).map fun z => z.1.2 := by
    unfold sortBy
    rw [← e2, ← PySem.W.sort_maps (r := dataLe false fun z => z.2) (fun z : (V × D) × PyData => (z.1.2, z.2)) (fun a _ b _ => rfl), List.map_map]
    rfl
  rw [m1, m2]
  refine rvA_zip fun z hz => ?_
  have hz := (List.mergeSort_perm _ _).mem_iff.mp hz
  exact rvA_mem h _ (List.of_mem_zip hz).1
end
end Z

set_option Elab.async false
set_option linter.all false
set_option maxRecDepth 100000
set_option maxHeartbeats 4000000
namespace Z
open PySem L2
variable [TabsP]
open PySem.Spec PyProof.Rows LamX
open PySem.W (EachIs dataLe AllAlike Sortable)
/-- keys that can be compared -/
structure KeysOk (ks : List D) : Prop where
  py : pydA ks = true
  al : AllAlike (toPyA ks)
  so : Sortable (toPyA ks)
  dp : ∀ d ∈ toPyA ks, d.depth ≤ 16
/-- the lambda's body gives the key of each -/
def dKeys (tb : DT) (ρ1 : En) (ds ks : List D) : Prop := ks.length = ds.length ∧ ∀ (i : Nat) (d k : D), ds[i]? = some d → ks[i]? = some k → tb (ρ1 ++ [some (.dat d)]) fun r _ => r = .dat k
theorem toPyA_len : ∀ ks : List D, (toPyA ks).length = ks.length
  | [] => rfl
  | k :: ks => by
    show (toPyA ks).length + 1 = _
    rw [toPyA_len ks]
    rfl
theorem rvA_snoc {K : PySem.W.Frag} {hd : Option Addr} {F : Hp} {vs : List V} {ds : List D} {v : V} {d : D} (h : RvA K hd F vs ds) (g : Rv K hd F v d) : RvA K hd F (vs ++ [v]) (ds ++ [d]) := h.app (.cons g .nil)
section
variable {B : Bs} {F F' H H' : Hp} {ρ ρ' : En} {σ σ' : L2.St}
theorem codeO_nt {c : Addr} {q : Str} : ¬ IsTbl (CodeO c q) := fun ⟨ps, z⟩ => codeO_ne ps z
theorem sort_core {ρ1 : En} {F1 H1 : Hp} {a : Addr} {q : Str} {xs : List V} {ds ks : List D} {tB : TE} {tb : DT} {Q : VK} (l1 : Rel B F1 ρ1 σ H1) (no : hasOwn ρ1 = false) (ra : RvA B.K B.hd F1 xs ds) (src : ∀ H2, ExtN H1 H2 → SrcV B.K H2 a xs)
    (hb : ∀ (F0 H0 : Hp) (a0 : ∀ p, B.md = some p → ¬ NoO H0 p.2), Sim ⟨B.K, B.md, F0, H0, a0⟩ tB tb) (dk : dKeys tb ρ1 ds ks) (ok : KeysOk ks)
    (k : ∀ v F' H', Rel B F' ρ1 σ H' → Same F1 F' → NewL B F' ρ1 σ H' (sortBy ds (toPyA ks)) v → Q v H') :
    LamX.Tabs TabsP.T H1 ∧ ∀ (c' : Addr) (H2 : Hp), ExtN H1 H2 → LamX.Tabs TabsP.T H2 → H2 c' = some (CodeO c' q) →
      ∃ (a1 : Addr) (xs : List V) (W : Nat → List V → Hp → Prop), [V.ref a] = [V.ref a1] ∧ SrcV B.K H2 a1 xs ∧ W 0 [] H2 ∧ (∀ i kvs H, W i kvs H → H c' = some (CodeO c' q)) ∧
        (∀ i kvs H v, W i kvs H → xs[i]? = some v → tB (σ ++ [some v]) H fun y H' => W (i + 1) (kvs ++ [y]) H') ∧
        ∀ kvs H, W xs.length kvs H → kvs.length = xs.length → ∃ ks, DpAll B.K H kvs ks ∧ ks.length = xs.length ∧ AllAlike ks ∧ Sortable ks ∧ (∀ d ∈ ks, d.depth ≤ 16) ∧ ∀ p, H p = none → Q (.ref p) (upd H p (.lst (sortBy xs ks))) := by
  refine ⟨l1.sb.tb, fun c' H2 ex t2 hc => ?_⟩
  have l2 := l1.extN ex t2
  have nown := noOwn_of no
  refine ⟨a, xs, fun i kvs H => ∃ F', Rel B F' ρ1 σ H ∧ Same F1 F' ∧ H c' = some (CodeO c' q) ∧ RvA B.K B.hd F' kvs (ks.take i), rfl, src H2 ex, ⟨F1, l2, Same.refl _, hc, by rw [List.take_zero]; exact .nil⟩, fun i kvs H w => ?_, fun i kvs H v w hv => ?_, fun kvs H w hl => ?_⟩
  · obtain ⟨_, _, _, e, _⟩ := w
    exact e
  · obtain ⟨F', r, s, e, rk⟩ := w
    obtain ⟨d, ed, rv⟩ := ra.get hv
    have hi := (List.getElem?_eq_some_iff.mp ed).1
    have hk : i < ks.length := by rw [dk.1]; exact hi
    have ek : ks[i]? = some ks[i] := List.getElem?_eq_getElem hk
    have rb := (r.base nown r.a0).push (B := ⟨B.K, B.md, F', H, r.a0⟩) (Rv.mono rv s)
    refine (hb F' H r.a0).frz F' _ _ H _ _ rb (dk.2 i d _ ed ek) fun r2 y F2 ρ2 H3 l3 s3 _ ry er => ?_
    subst er
    refine ⟨F2, r.rebase nown l3, s.trans s3, l3.kept c' _ e (fun p ep z => ?_) codeO_nt, ?_⟩
    · obtain ⟨cs, j, a, b, e1, _⟩ := (r.hnd p ep).1.ex
      rw [← z, e] at e1
      unfold CodeO at e1
      cases e1
    · have : ks.take (i + 1) = ks.take i ++ [ks[i]] := by rw [List.take_add_one, ek]; rfl
      rw [this]
      exact rvA_snoc (rk.mono s3) ry
  · obtain ⟨F', r, s, e, rk⟩ := w
    rw [List.take_of_length_le (by rw [dk.1, ra.len]; exact Nat.le_refl _)] at rk
    have lk : (toPyA ks).length = xs.length := by rw [toPyA_len, dk.1, ra.len]
    refine ⟨toPyA ks, RvA.dp r.sub ks kvs ok.py rk, lk, ok.al, ok.so, ok.dp, fun p hp => ?_⟩
    obtain ⟨l4, n4⟩ := r.newL hp (rvA_sort (ks := toPyA ks) (ra.mono s) lk)
    exact k _ F' _ l4 s n4
end
/-- sorted(range(e), key=lambda x: body) -/
def dSortR (te tb : DT) : DT := fun ρ P => te ρ fun r ρ1 => hasOwn ρ1 = false ∧ ∃ (n : Nat) (ks : List D), r = .dat (.int (n : Int)) ∧ n ≤ 1000000 ∧ dKeys tb ρ1 (rgD 0 (n : Int)) ks ∧ KeysOk ks ∧ P (.new (sortBy (rgD 0 (n : Int)) (toPyA ks))) ρ1
/-- sorted(e, key=lambda x: body), e a list -/
def dSortL (te tb : DT) : DT := fun ρ P => te ρ fun r ρ1 => hasOwn ρ1 = false ∧ r.isVar = false ∧ ∃ (ds ks : List D), vl ρ1 r = .lst ds ∧ dKeys tb ρ1 ds ks ∧ KeysOk ks ∧ P (.new (sortBy ds (toPyA ks))) ρ1
section
variable {X : Cx} {B : Bs} {x : Str} {c P : Addr} {k : Nat} {params : Arguments} {body e : Expr} {scope : Scope} {p p2 pos pos2 lpos kpos : Pos} {tE tB : TE} {te tb : DT}
theorem de_sortR (hg : Gl X "sorted") (hm : X.mg "sorted" = none) (hg2 : Gl X "range") (hm2 : X.mg "range" = none) (h : DE X B e tE te) (L : Lam1 X.env.scope scope x) (hr : Room (k + 3) X.A)
    (TB : TabB X.base X.mg c P) (hcode : X.env.code = .ref c) (hmT : (P, X.env.qual ++ "<lambda>") ∈ TabsP.T) (hu : ∀ p ∈ TabsP.T, p.1 = P → p.2 = X.env.qual ++ "<lambda>") (hdef : defaultsOf params X.env = ([], []))
    (hbind : ∀ (q : Str) (cl : List (Str × Addr)) (pm cv ctv w : Value), bindArgs (PySem.W.kla_fn "<lambda>" q params body scope cl pm cv ctv) ⟨[w], []⟩ = pure [(x, w)])
    (hb : ∀ (A : Around) (outer : List PySem.Env) (s : Shared) (H : Hp) (f c' : Addr), Room k (A.deeper (lamEnv X scope s.heap.objs.size f c')) → ∀ (F0 H0 : Hp) (a0 : ∀ p, B.md = some p → ¬ NoO H0 p.2), DE (lam1Cx X A outer s H E0 scope x f c') ⟨B.K, B.md, F0, H0, a0⟩ body tB tb)
    (hK : X.K = B.K := by rfl)
    (h1 : starEach [e] X.env = (false, eval e X.env) :: starEach [] X.env := by rfl)
    (he : backTo pos (starEach [.Call (.Name "range" p2) [e] [] pos2] X.env) = (false, eval (.Call (.Name "range" p2) [e] [] pos2) X.env) :: backTo pos (starEach [] X.env) := by rfl) (hpl : (backTo pos (starEach [.Call (.Name "range" p2) [e] [] pos2] X.env)).any (·.1) = false := by rfl) :
    DE X B (.Call (.Name "sorted" p) [.Call (.Name "range" p2) [e] [] pos2] [⟨some "key", .Lambda params body scope lpos, kpos⟩] pos) (tSortK B.K TabsP.T (X.env.qual ++ "<lambda>") (tCons (tCB (fun vs H Q => ∃ j, vs = [V.int j] ∧ ∀ p, H p = none → Q (.ref p) (upd H p (.rng 0 j))) (tCons tE tNil)) tNil) tB) (dSortR te tb) := by
  have a00 : ∀ p, B.md = some p → ¬ NoO (fun _ => some (HO.lst [])) p.2 := fun p _ => someO (u := .lst []) rfl fun ps z => by cases z
  have sim : ∀ (F0 H0 : Hp) (a0 : ∀ p, B.md = some p → ¬ NoO H0 p.2), Sim ⟨B.K, B.md, F0, H0, a0⟩ tB tb := fun F0 H0 a0 => (hb X.A [] X.s_0 X.H_0 0 0 ((hr.mono (by omega)).deeper _) F0 H0 a0).sim
  refine ⟨by rw [← hK]; exact pe_sortK hg hm (pa_cons (pe_callTy (T := "range") cr_range1 hg2 hm2 (by rfl) (pa_cons h.pe pa_nil h1) (by decide) (by decide) h1) pa_nil) L hr TB hcode hmT hu hdef hbind (fun A outer s H f c' hr => (hb A outer s H f c' hr (fun _ => none) _ a00).pe) he hpl, ?_⟩
  refine fun F ρ σ H P Q l w kk => h.sim.frz F ρ σ H _ _ l w fun r v F1 ρ1 H1 l1 s1 k1 rv ⟨no, n, ks, er, hn, dk, ok, q⟩ => ?_
  subst er
  have rv : Rv B.K B.hd F1 v (.int (n : Int)) := rv
  cases rv
  refine ⟨_, rfl, fun a ha => ?_⟩
  exact sort_core (l1.newO ha) no (rvA_rg 0 (n : Int)) (fun H2 ex => .inr ⟨n, hn, ex _ _ upd_same fun ps z => (by cases z), rfl⟩) sim dk ok fun v F' H' l' s nl => kk (.new _) v F' ρ1 H' l' (s1.trans s) k1 nl q
theorem de_sortL (hg : Gl X "sorted") (hm : X.mg "sorted" = none) (h : DE X B e tE te) (L : Lam1 X.env.scope scope x) (hr : Room (k + 3) X.A)
    (TB : TabB X.base X.mg c P) (hcode : X.env.code = .ref c) (hmT : (P, X.env.qual ++ "<lambda>") ∈ TabsP.T) (hu : ∀ p ∈ TabsP.T, p.1 = P → p.2 = X.env.qual ++ "<lambda>") (hdef : defaultsOf params X.env = ([], []))
    (hbind : ∀ (q : Str) (cl : List (Str × Addr)) (pm cv ctv w : Value), bindArgs (PySem.W.kla_fn "<lambda>" q params body scope cl pm cv ctv) ⟨[w], []⟩ = pure [(x, w)])
    (hb : ∀ (A : Around) (outer : List PySem.Env) (s : Shared) (H : Hp) (f c' : Addr), Room k (A.deeper (lamEnv X scope s.heap.objs.size f c')) → ∀ (F0 H0 : Hp) (a0 : ∀ p, B.md = some p → ¬ NoO H0 p.2), DE (lam1Cx X A outer s H E0 scope x f c') ⟨B.K, B.md, F0, H0, a0⟩ body tB tb)
    (hK : X.K = B.K := by rfl) (h1 : starEach [e] X.env = (false, eval e X.env) :: starEach [] X.env := by rfl)
    (he : backTo pos (starEach [e] X.env) = (false, eval e X.env) :: backTo pos (starEach [] X.env) := by rfl) (hpl : (backTo pos (starEach [e] X.env)).any (·.1) = false := by rfl) :
    DE X B (.Call (.Name "sorted" p) [e] [⟨some "key", .Lambda params body scope lpos, kpos⟩] pos) (tSortK B.K TabsP.T (X.env.qual ++ "<lambda>") (tCons tE tNil) tB) (dSortL te tb) := by
  have a00 : ∀ p, B.md = some p → ¬ NoO (fun _ => some (HO.lst [])) p.2 := fun p _ => someO (u := .lst []) rfl fun ps z => by cases z
  have sim : ∀ (F0 H0 : Hp) (a0 : ∀ p, B.md = some p → ¬ NoO H0 p.2), Sim ⟨B.K, B.md, F0, H0, a0⟩ tB tb := fun F0 H0 a0 => (hb X.A [] X.s_0 X.H_0 0 0 ((hr.mono (by omega)).deeper _) F0 H0 a0).sim
  refine ⟨by rw [← hK]; exact pe_sortK hg hm (pa_cons h.pe pa_nil h1) L hr TB hcode hmT hu hdef hbind (fun A outer s H f c' hr => (hb A outer s H f c' hr (fun _ => none) _ a00).pe) he hpl, ?_⟩
  refine fun F ρ σ H P Q l w kk => h.sim.frz F ρ σ H _ _ l w fun r v F1 ρ1 H1 l1 s1 k1 rv ⟨no, nv, ds, ks, er, dk, ok, q⟩ => ?_
  have rv2 : Rv B.K B.hd F1 v (.lst ds) := by
    cases r with
    | dat d => rw [← er]; exact rv
    | new es =>
      rw [← er]
      exact rv
    | var i => cases nv
  cases rv2 with
  | lst e1 ra => exact sort_core l1 no ra (fun H2 ex => .inl (SqL.of (ex _ _ (l1.sub _ _ e1) fun ps z => (by cases z)))) sim dk ok fun v F' H' l' s nl => kk (.new _) v F' ρ1 H' l' (s1.trans s) k1 nl q
end
/-! ## a def whose code makes a lambda -/
section
variable {P : Program} {w : World} {K : PySem.W.Frag} {mg : Str → Option Value} {base : Heap} {x qual : Str} {st : Stmt} {f c : Addr} {fd : FuncData} {N ps : List Str} {k : Nat} {W : DW}
theorem okDC (F : Fun K x qual st f fd) (hc : fd.code = .ref c) (S : FnScope N ps (defScope st)) (hlen : ∀ ds Q ex, W ds Q ex → ds.length = ps.length)
    (hb : ∀ (A : Around) (outer : List PySem.Env) (s : Shared) (H : Hp) (E : XK), Room k (A.deeper (PyProof.Rows.envOfC qual (defScope st) s.heap.objs.size f (.ref c))) → ∀ (md : Option (Addr × Addr)) (F0 : Hp) (a0 : ∀ p, md = some p → ¬ NoO H p.2),
      ∃ tS t, DSs (cxOf CX0 P w K mg base N qual (defScope st) f (.ref c) A outer s H E).nox ⟨K, md, F0, H, a0⟩ (defBody st) tS t ∧ ∀ ds Q ex, W ds Q ex → t { nx := fun _ => Q (.dat .non), rt := Q } (startD N ds)) : FnOk P w K mg base CX0 (k + 1) f fd ps (spD K W) := by
  obtain ⟨oc, od, kV, doc, pm, an, cdv, ct, osl, rfl, lk, hcd⟩ := F.ex
  have hc : cdv = .ref c := hc
  subst hc
  refine fn_of lk hcd S (sp_len hlen) fun A outer s H vs Q E hr h => ?_
  obtain ⟨⟨K', md, F0, H0, a0⟩, ds, P', ex, rfl, rfl, ok, a, w, hk, _⟩ := h
  obtain ⟨tS, t, d, q⟩ := hb A outer s H0 E hr md F0 a0
  exact ⟨tS, d.ps.nox, sp_body ok a hk d.sim (q ds P' ex w)⟩
end
end Z

set_option Elab.async false
set_option linter.all false
set_option maxRecDepth 100000
set_option maxHeartbeats 2100000
namespace Z
open PySem L2
variable [TabsP]
open PySem.Spec PyProof.Rows
/-- data whose text is short -/
structure Sh (n : Nat) (k : Nat) (d : PyData) : Prop where
  sw : d.showable = true
  nd : d.hasDict = false
  dp : d.depth ≤ n
  ln : d.shown.length ≤ k
theorem Sh.mono {n m k j : Nat} {d : PyData} (h : Sh n k d) (h1 : n ≤ m) (h2 : k ≤ j) : Sh m j d := ⟨h.sw, h.nd, Nat.le_trans h.dp h1, Nat.le_trans h.ln h2⟩
theorem sh_int {i : Int} (h : i.natAbs.log2 < 1920) : Sh 0 1921 (.int i) := ⟨by simp [PyData.showable, h], by simp [PyData.hasDict], by simp [PyData.depth], by
  simp only [PyData.shown]
  exact PyProof.Rows.int_text_len_1921 h⟩
theorem sh_small {i : Int} (h0 : -1000 ≤ i) (h1 : i ≤ 1000) : Sh 0 1921 (.int i) := sh_int (by
  by_cases hz : i.natAbs = 0
  · rw [hz]
    decide
  · rw [Nat.log2_lt hz]
    exact Nat.lt_of_lt_of_le (by omega : i.natAbs < 2 ^ 10) (Nat.pow_le_pow_right (by decide) (by decide)))
theorem sh_all {k : Nat} : ∀ {ds : List PyData} {n : Nat}, (∀ d ∈ ds, Sh n k d) → PyData.showableAll ds = true ∧ PyData.hasDictAll ds = false ∧ PyData.depthAll ds ≤ n ∧ ((PyData.shownAll ds).map (·.length)).sum ≤ ds.length * k ∧ (PyData.shownAll ds).length = ds.length
  | [], _, _ => by simp [PyData.showableAll, PyData.hasDictAll, PyData.depthAll, PyData.shownAll]
  | d :: ds, n, h => by
    obtain ⟨a1, a2, a3, a4, a5⟩ := sh_all (ds := ds) (n := n) fun e he => h e (List.mem_cons_of_mem _ he)
    have hd := h d List.mem_cons_self
    refine ⟨by simp [PyData.showableAll, hd.sw, a1], by simp [PyData.hasDictAll, hd.nd, a2], ?_, ?_, by simp [PyData.shownAll, a5]⟩
    · have := hd.dp
      simp only [PyData.depthAll]
      omega
    · have := hd.ln
      simp only [PyData.shownAll, List.map_cons, List.sum_cons, List.length_cons, Nat.add_mul]
      omega
theorem sh_list {n k : Nat} {ds : List PyData} (h : ∀ d ∈ ds, Sh n k d) : Sh (n + 1) (ds.length * k + 2 * ds.length + 3) (.list ds) := by
  obtain ⟨a1, a2, a3, a4, a5⟩ := sh_all h
  refine ⟨by simp [PyData.showable, a1], by simp [PyData.hasDict, a2], by simp only [PyData.depth]; omega, ?_⟩
  simp only [PyData.shown]
  have := listText_len_le (PyData.shownAll ds)
  rw [a5] at this
  omega
theorem sh_tuple {n k : Nat} {ds : List PyData} (h : ∀ d ∈ ds, Sh n k d) : Sh (n + 1) (ds.length * k + 2 * ds.length + 3) (.tuple ds) := by
  obtain ⟨a1, a2, a3, a4, a5⟩ := sh_all h
  refine ⟨by simp [PyData.showable, a1], by simp [PyData.hasDict, a2], by simp only [PyData.depth]; omega, ?_⟩
  simp only [PyData.shown]
  have := tupleText_len_le (PyData.shownAll ds)
  rw [a5] at this
  omega
theorem sh_two {a b : PyData} (ha : Sh 0 1921 a) (hb : Sh 0 1921 b) : ∀ d ∈ [a, b], Sh 0 1921 d := fun d hd => by
  rcases List.mem_cons.mp hd with rfl | hd
  · exact ha
  · rcases List.mem_cons.mp hd with rfl | hd
    · exact hb
    · cases hd
/-! ### repr of data -/
def rReprD (K : PySem.W.Frag) : List V → Hp → VK → Prop := fun xs H Q => ∃ a d, xs = [.ref a] ∧ Dp K H (.ref a) d ∧ Sh 8 sizeLine d ∧ Q (.str (PyData.shown d)) H
theorem call_reprD {X : Cx} (K : PySem.W.Frag) (hg : X.A.guards = some []) (hu : X.A.units + 64 < cLine) (hK : X.K = K := by rfl) : CallR X (.builtin "repr") (rReprD K) := by
  intro pins s σ H xs us Q inv rl want
  obtain ⟨a, d, rfl, dv, sh, q⟩ := want
  cases rl with
  | cons r1 rr =>
    cases rr
    cases r1
    obtain ⟨as, rd⟩ := Dp.reads inv d (.ref a) (.ref a) (by rw [hK]; exact dv) rfl
    exact repr_of_reads' rd sh.sw (PyData.noDict_hsm sh.nd) hg (by have := sh.dp; omega) (fun _ _ e => e) (fun h' u tk hk => ⟨.str (PyData.shown d), H, inv.kept (t' := tk) hk, ⟨_, rfl⟩, q⟩) sh.ln
/-! ### a def that is called where no text is being made of an object that holds itself -/
structure FnOkG (P : Program) (w : World) (K : PySem.W.Frag) (mg : Str → Option Value) (base : Heap) (k : Nat) (f : Addr) (fd : FuncData) (ps : List Str) (sp : Sp) : Prop where
  len : ∀ vs H Q E, sp vs H Q E → vs.length = ps.length
  run : ∀ (A : Around) (outer : List Env) (s : Shared) (H : Hp) (args : Args) (us : List Value) (vs : List V) (Q : VK) (E : XK), Room k A → A.guards = some [] → Env0 P w K mg base A outer s H → BindsTo s fd args (ps.zip us) → Vals vs us → sp vs H Q E → codeAny (model P w) A (.call (.ref f) args) (CR CX0 outer P w H s Q E) s
structure CalQ (P : Program) (w : World) (K : PySem.W.Frag) (mg : Str → Option Value) (base : Heap) (x : Str) (k : Nat) (sp : Sp) : Prop where
  ex : ∃ (f : Addr) (fd : FuncData) (ps : List Str), mg x = some (.ref f) ∧ PySem.W.keepIn K (.ref f) = true ∧ Binds K fd ps [] ∧ FnOkG P w K mg base k f fd ps sp
theorem fnG_of {P : Program} {w : World} {K : PySem.W.Frag} {mg : Str → Option Value} {base : Heap} {k : Nat} {x qual : Str} {st : Stmt} {f : Addr} {fd : FuncData} {N ps : List Str} {sp : Sp} (D : Fun K x qual st f fd) (S : FnScope N ps (defScope st)) (len : ∀ vs H Q E, sp vs H Q E → vs.length = ps.length)
    (body : ∀ (cdv : Value) (A : Around) (outer : List Env) (s : Shared) (H : Hp) (vs : List V) (Q : VK) (E : XK), Room k (A.deeper (PyProof.Rows.envOfC qual (defScope st) s.heap.objs.size f cdv)) → A.guards = some [] → sp vs H Q E →
      ∃ t, PSs (cxOf CX0 P w K mg base N qual (defScope st) f cdv A outer s H E).nox (defBody st) t ∧ t { nx := fun _ H' => Q .non H', rt := Q } (start N vs) H) : FnOkG P w K mg base (k + 1) f fd ps sp := by
  obtain ⟨oc, od, kV, doc, pm, an, cdv, ct, osl, rfl, lk, code⟩ := D.ex
  refine ⟨len, fun A outer s H args us vs Q E room gd begin0 binds rels want => ?_⟩
  have many := len _ _ _ _ want
  have inK : K.In s.heap := begin0.mod.kin.keeps fun b o e => (begin0.bs b o e).1
  have nolim : s.heap.NoLimit := begin0.mod.nolimit.keeps fun b o e => (begin0.bs b o e).1
  have kinds : ∀ y ∈ ps.zip us, (defScope st).names.lookup y.1 = some .local ∨ ((defScope st).names.lookup y.1 = some .cell ∧ ((cellsFrom (s.heap.objs.size + 1) (defScope st).names []).lookup y.1).isSome = true) := fun y hy => by
    rcases S.par y.1 (List.of_mem_zip (a := y.1) (b := y.2) hy).1 with loc | cel
    · exact .inl loc
    · exact .inr ⟨cel, PySem.W.cellsFrom_some _ _ _ (.inl cel)⟩
  refine codeAny_call_function room.depth (inK _ _ lk) rfl S.co S.gen rfl (PySem.W.codeRec_of inK code) (binds _ _ _ _ ?_)
  refine wpAny_newFunctionEnv_cells S.kind kinds fun env henv s1 made => ?_
  subst henv
  refine ⟨nolim.keeps made.toInCall.keep, codeAny_func ?_⟩
  obtain ⟨t, ht, goes⟩ := body cdv A outer s H vs Q E (room.deeper _) gd want
  have inv : Inv (cxOf CX0 P w K mg base N qual (defScope st) f cdv A outer s H E) [] (start N vs) H s1 := inv_start S room.hd begin0 many rels made
  refine wpAny_mono (ht.nox.run [] s1 (start N vs) H _ inv goes) (fun fl s2 hs => ?_) fun e s2 hs => hs
  match fl, hs with
  | .ret u, ⟨v, σ2, H2, inv2, rv, got⟩ => exact ⟨v, H2, inv2.os, inv2.bare, inv2.base, inv2.hok, rv, got⟩
  | .next, ⟨σ2, H2, inv2, got⟩ => exact ⟨V.non, H2, inv2.os, inv2.bare, inv2.base, inv2.hok, rfl, got⟩
  | .brk, ⟨_, _, _, got⟩ => exact False.elim got
  | .cont, ⟨_, _, _, got⟩ => exact False.elim got
section
variable {X : Cx} {x : Str} {k : Nat} {sp : Sp} {e : Expr} {es : List Expr} {t : TA} {p pos : Pos}
theorem pe_calG (c : CalQ X.prog X.w X.K X.mg X.base x k sp) (gd : X.A.guards = some []) (hr : Room k X.A) (hg : Gl X x) (ha : PA X (e :: es) t)
    (hdb : (x == ("__debug__" : Str)) = false := by decide) (he : starEach (e :: es) X.env = (false, eval e X.env) :: starEach es X.env := by rfl) (hpl : (backTo pos (starEach es X.env)).any (·.1) = false := by rfl) :
    PE X (.Call (.Name x p) (e :: es) [] pos) (tCall sp [] E0 t) := by
  obtain ⟨f, fd, ps, hm, hk, hb, F⟩ := c.ex
  refine ⟨fun pins s σ H Q I h => ?_⟩
  refine wpAny_Call_Name_kw (ld_glob I hg hm ?_ hdb)
  refine PySem.W.callWith_K (h₀ := X.base) I.ok.mod.kin hk (thn (ha.run pos pins s σ H _ I h) fun us s1 ⟨vs, H1, I1, r, q⟩ => ⟨I1.kIn, ?_⟩) he hpl
  have q : sp vs H1 Q E0 := by
    have z : sp (vs ++ []) H1 Q E0 := q
    rw [List.append_nil] at z
    exact z
  have hl : us.length = ps.length := by
    have z := F.len _ _ _ _ q
    rw [← r.length]
    exact z
  have bd := hb s1 us I1.kIn (by rw [List.append_nil]; exact hl)
  rw [List.append_nil] at bd
  refine wpAny_call (codeAny_mono (F.run X.A X.stack s1 H1 ⟨us, []⟩ us vs Q E0 hr gd I1.env0 bd r q) fun res s' hq => ?_)
  cases res with
  | error e => exact (pass0 pins σ H1 s1 e s' I1 hq)
  | ok fl =>
    cases fl with
    | ret u => exact I1.after hq
    | next => exact False.elim hq
    | brk => exact False.elim hq
    | cont => exact False.elim hq
end
/-! ### the same by values -/
section
variable {P : Program} {w : World} {K : PySem.W.Frag} {mg : Str → Option Value} {base : Heap} {x qual : Str} {st : Stmt} {f c : Addr} {fd : FuncData} {N ps : List Str} {k : Nat} {W : DW}
theorem okDG (F : Fun K x qual st f fd) (S : FnScope N ps (defScope st)) (hlen : ∀ ds Q ex, W ds Q ex → ds.length = ps.length)
    (hb : ∀ (cdv : Value) (A : Around) (outer : List PySem.Env) (s : Shared) (H : Hp) (E : XK), Room k (A.deeper (PyProof.Rows.envOfC qual (defScope st) s.heap.objs.size f cdv)) → A.guards = some [] → ∀ (md : Option (Addr × Addr)) (F0 : Hp) (a0 : ∀ p, md = some p → ¬ NoO H p.2),
      ∃ tS t, DSs (cxOf CX0 P w K mg base N qual (defScope st) f cdv A outer s H E).nox ⟨K, md, F0, H, a0⟩ (defBody st) tS t ∧ ∀ ds Q ex, W ds Q ex → t { nx := fun _ => Q (.dat .non), rt := Q } (startD N ds)) : FnOkG P w K mg base (k + 1) f fd ps (spD K W) := by
  refine fnG_of F S (sp_len hlen) fun cdv A outer s H vs Q E hr hg h => ?_
  obtain ⟨⟨K', md, F0, H0, a0⟩, ds, P', ex, rfl, rfl, ok, a, w, hk, _⟩ := h
  obtain ⟨tS, t, d, q⟩ := hb cdv A outer s H0 E hr hg md F0 a0
  exact ⟨tS, d.ps, sp_body ok a hk d.sim (q ds P' ex w)⟩
/-- a def whose code makes a lambda, and that may raise -/
theorem okDCX (F : Fun K x qual st f fd) (hc : fd.code = .ref c) (S : FnScope N ps (defScope st)) (hlen : ∀ ds Q ex, W ds Q ex → ds.length = ps.length)
    (hb : ∀ (A : Around) (outer : List PySem.Env) (s : Shared) (H : Hp) (E : XK), Room k (A.deeper (PyProof.Rows.envOfC qual (defScope st) s.heap.objs.size f (.ref c))) → ∀ (md : Option (Addr × Addr)) (F0 : Hp) (a0 : ∀ p, md = some p → ¬ NoO H p.2) (ex : EXD), LX ⟨K, md, F0, H, a0⟩ ex E →
      ∃ tS t, DSs (cxOf (L2.CX P w) P w K mg base N qual (defScope st) f (.ref c) A outer s H E) ⟨K, md, F0, H, a0⟩ (defBody st) tS t ∧ ∀ ds Q, W ds Q ex → t { nx := fun _ => Q (.dat .non), rt := Q } (startD N ds)) : FnOk P w K mg base (L2.CX P w) (k + 1) f fd ps (spD K W) := by
  obtain ⟨oc, od, kV, doc, pm, an, cdv, ct, osl, rfl, lk, hcd⟩ := F.ex
  have hc : cdv = .ref c := hc
  subst hc
  refine fn_of lk hcd S (sp_len hlen) fun A outer s H vs Q E hr h => ?_
  obtain ⟨⟨K', md, F0, H0, a0⟩, ds, P', ex, rfl, rfl, ok, a, w, hk, hl⟩ := h
  obtain ⟨tS, t, d, q⟩ := hb A outer s H0 E hr md F0 a0 ex hl
  exact ⟨tS, d.ps, sp_body ok a hk d.sim (q ds P' w)⟩
end
section
variable {X : Cx} {B : Bs} {x : Str} {k : Nat} {W : DW} {e : Expr} {es : List Expr} {tA : TA} {u : DTA} {p pos : Pos}
theorem de_callG {K : PySem.W.Frag} (c : CalQ X.prog X.w X.K X.mg X.base x k (spD K W)) (gd : X.A.guards = some []) (hr : Room k X.A) (hg : Gl X x) (ha : DA X B (e :: es) tA u)
    (hB : B.K = K := by rfl) (hdb : (x == ("__debug__" : Str)) = false := by decide) (he : starEach (e :: es) X.env = (false, eval e X.env) :: starEach es X.env := by rfl) (hpl : (backTo pos (starEach es X.env)).any (·.1) = false := by rfl) :
    DE X B (.Call (.Name x p) (e :: es) [] pos) (tCall (spD K W) [] E0 tA) (dCall W [] exF u) := by
  subst hB
  refine ⟨pe_calG c gd hr hg ha.pe hdb he hpl, fun F ρ σ H P Q l w k => ha.sim F ρ σ H _ _ l w fun rs vs F' ρ' H' l' s kp al q => ?_⟩
  exact sp_call (dvs := []) (dd := []) l' al lx0 (fun _ => .nil) q fun r v F2 H2 l2 s2 rv p => k r v F2 ρ' H2 l2 (s.trans s2) kp rv p
def dRepr (ds : List D) (P : R → Prop) : Prop := ∃ es, ds = [.lst es] ∧ pydA es = true ∧ Sh 8 sizeLine (toPy (.lst es)) ∧ P (.dat (.str (toPy (.lst es)).shown))
theorem cad_repr : CaD B (rReprD B.K) dRepr := by
  intro F ρ σ H xs ds P Q l a w kk
  obtain ⟨es, rfl, py, sh, q⟩ := w
  obtain ⟨v, rfl, r⟩ := a.one
  have dp := Rv.dp l.sub (.lst es) v py r
  cases r with
  | lst e ra => exact ⟨_, _, rfl, dp, sh, kk (.dat _) _ F H l (Same.refl _) (.str _) q⟩
theorem units64 {n : Nat} {A : Around} (r : Room n A) : A.units + 64 < cLine := by
  have := r.un
  omega
theorem units65 {n : Nat} {A : Around} (r : Room n A) : A.units + 65 < cLine := by
  have := r.un
  omega
end
/-! ### bits -/
section
variable {X : Cx} {B : Bs}
def rOdd : R2 := fun x y H Q => ∃ n : Nat, x = .int (n : Int) ∧ y = .int 1 ∧ Q (.int ((n % 2 : Nat) : Int)) H
def dOdd (a b : D) (P : R → Prop) : Prop := ∃ n : Nat, a = .int (n : Int) ∧ b = .int 1 ∧ P (.dat (.int ((n % 2 : Nat) : Int)))
theorem opd_odd : OpD B rOdd dOdd := by
  intro F ρ σ H x y dx dy P Q l a b w k
  obtain ⟨n, rfl, rfl, q⟩ := w
  cases a
  cases b
  exact ⟨n, rfl, rfl, k (.dat _) _ F H l (Same.refl _) (.int _) q⟩
theorem op_odd' : OpR X (binaryOp .BitAnd) rOdd := op_odd
end
/-! ### list.index of data; an empty dict -/
section
variable {X : Cx} {B : Bs}
def rIndexT (K : PySem.W.Frag) : V → List V → Hp → VK → Prop := fun x xs H Q => ∃ (a : Addr) (y : V) (d : PyData) (ds : List PyData) (j : Nat) (z : PyData), x = V.ref a ∧ xs = [y] ∧ Dp K H (V.ref a) (.list ds) ∧ Dp K H y d ∧ SeqAt.shaped (.list ds) = true ∧ SeqAt.shaped d = true ∧ ds[j]? = some z ∧ PyData.eqv z d = true ∧ (∀ (m : Nat) (z' : PyData), m < j → ds[m]? = some z' → PyData.eqv z' d = false) ∧ Q (.int (j : Nat)) H
theorem mt_indexT (K : PySem.W.Frag) (hu : X.A.units + 65 < cLine) (hK : X.K = K := by rfl) : MtR X "list.index" (rIndexT K) := by
  subst hK
  exact mt_indexD hu
def dIdxT (ta tb : DT) : DT := fun ρ P => ta ρ fun r1 ρ1 => ∃ ds, r1 = .dat (.lst ds) ∧ tb ρ1 fun r2 ρ2 => ∃ (d : D) (j : Nat), r2 = .dat d ∧ shp (.lst ds) = true ∧ shp d = true ∧ j < ds.length ∧ (∀ (m : Nat) (z : D), m ≤ j → ds[m]? = some z → eqD z d = decide (m = j)) ∧ P (.dat (.int (j : Nat))) ρ2
theorem toPyA_at : ∀ {ds : List D} {m : Nat} {z : PyData}, (toPyA ds)[m]? = some z → ∃ d, ds[m]? = some d ∧ toPy d = z
  | [], _, _, e => by simp [toPyA] at e
  | d :: ds, 0, z, e => by
    simp [toPyA] at e
    exact ⟨d, rfl, e⟩
  | d :: ds, m + 1, z, e => by
    simp [toPyA] at e
    obtain ⟨y, h1, h2⟩ := toPyA_at e
    exact ⟨y, by simpa using h1, h2⟩
theorem toPyA_at' : ∀ {ds : List D} {m : Nat} {d : D}, ds[m]? = some d → (toPyA ds)[m]? = some (toPy d)
  | [], _, _, e => by simp at e
  | d :: ds, 0, z, e => by
    simp at e
    simp [toPyA, e]
  | d :: ds, m + 1, z, e => by
    simp at e
    simp [toPyA, toPyA_at' e]
theorem de_indexT (K : PySem.W.Frag) {a b : Expr} {tA tB : TE} {ta tb : DT} {apos cpos : Pos} {nm : Nat} (ha : DE X B a tA ta) (hb : DE X B b tB tb) (hr : Room nm X.A) (hK : X.K = K := by rfl) (hB : B.K = K := by rfl) (hbase : attributeBase a "index" X.env (eval a X.env) = eval a X.env := by rfl)
    (hfew : ((backTo cpos (starEach [b] X.env)).all (fun x => !x.1) && (backToKw cpos (keywordEach [] X.env)).all (fun x => x.1.isSome) && decide ([b].length + ([] : List Keyword).length + (if ([] : List Keyword).isEmpty then 0 else 1) < 30)) = true := by rfl)
    (hline : (apos.endLine == cpos.line) = true := by rfl) (hs : starEach [b] X.env = (false, eval b X.env) :: starEach [] X.env := by rfl) (hpl : (backTo cpos (starEach [] X.env)).any (·.1) = false := by rfl) :
    DE X B (.Call (.Attribute a "index" apos) [b] [] cpos) (tBM K "list" (rIndexT K) tA (tCons tB tNil)) (dIdxT ta tb) := by
  subst hB
  refine ⟨by rw [← hK]; exact pe_bm PySem.F.plainAttrs_list PySem.F.slot_list_index PySem.F.type_list_index (mt_indexT _ (units65 hr)) ha.pe (pa_cons hb.pe pa_nil hs) hbase hfew hline hs hpl, fun F ρ σ H P Q l w k => ha.sim F ρ σ H _ _ l w fun r1 v1 F1 ρ1 H1 l1 s1 k1 rv1 p => ?_⟩
  obtain ⟨ds, rfl, p⟩ := p
  have rv1' : Rv B.K B.hd F1 v1 (.lst ds) := rv1
  have rv0 := rv1'
  cases rv0 with
  | lst e ra =>
    refine ⟨.inl ⟨rfl, _, SqL.of (l1.sub _ _ e)⟩, hb.sim F1 ρ1 σ H1 _ _ l1 p fun r2 v2 F2 ρ2 H2 l2 s2 k2 rv2 p => ?_⟩
    obtain ⟨d, j, rfl, h1, h2, h3, h4, q⟩ := p
    unfold shp at h1 h2
    rw [Bool.and_eq_true] at h1 h2
    have d1 : Dp B.K H2 (.ref _) (toPy (.lst ds)) := Rv.dp l2.sub (.lst ds) _ h1.1 (Rv.mono rv1' s2)
    have rv3 : Rv B.K B.hd F2 v2 d := rv2
    have d2 : Dp B.K H2 v2 (toPy d) := Rv.dp l2.sub d _ h2.1 rv3
    refine ⟨_, _, _, _, j, toPy ds[j], rfl, rfl, d1, d2, h1.2, h2.2, toPyA_at' (List.getElem?_eq_getElem h3), ?_, fun m z' hm e => ?_, k (.dat (.int (j : Nat))) _ F2 ρ2 H2 l2 (s1.trans s2) (k1.trans k2) (.int _) q⟩
    · have := h4 j ds[j] (Nat.le_refl _) (List.getElem?_eq_getElem h3)
      rw [decide_eq_true rfl] at this
      exact this
    · obtain ⟨y, e1, rfl⟩ := toPyA_at e
      have := h4 m y (Nat.le_of_lt hm) e1
      rw [decide_eq_false (Nat.ne_of_lt hm)] at this
      exact this
/-- a text is itself -/
def dEqS (a b : D) (P : R → Prop) : Prop := ∃ x : Str, a = .str x ∧ b = .str x ∧ P (.dat (.bl true))
theorem opd_eqS : OpD B rEq dEqS := by
  intro F ρ σ H x y dx dy P Q l a b w k
  obtain ⟨z, rfl, rfl, q⟩ := w
  cases a
  cases b
  refine ⟨rfl, ?_⟩
  rw [decide_eq_true rfl]
  exact k (.dat _) _ F H l (Same.refl _) (.bl _) q
/-- each of a list gives one that belongs to it -/
inductive A2 (G : D → D → Prop) : List D → List D → Prop
  | nil : A2 G [] []
  | cons {d e : D} {ds es : List D} : G d e → A2 G ds es → A2 G (d :: ds) (e :: es)
theorem A2.snoc {G : D → D → Prop} {ds es : List D} {d e : D} (h : A2 G ds es) (g : G d e) : A2 G (ds ++ [d]) (es ++ [e]) := by
  induction h with
  | nil => exact .cons g .nil
  | cons a _ ih => exact .cons a ih
theorem A2.len {G : D → D → Prop} {ds es : List D} (h : A2 G ds es) : es.length = ds.length := by
  induction h with
  | nil => rfl
  | cons _ _ ih => simp [ih]
theorem A2.mem {G : D → D → Prop} {ds es : List D} (h : A2 G ds es) : ∀ e ∈ es, ∃ d ∈ ds, G d e := by
  induction h with
  | nil => intro e he; cases he
  | cons g _ ih =>
    intro x hx
    rcases List.mem_cons.mp hx with rfl | hx
    · exact ⟨_, List.mem_cons_self, g⟩
    · obtain ⟨d, hd, q⟩ := ih x hx
      exact ⟨d, List.mem_cons_of_mem _ hd, q⟩
theorem A2.map {G : D → D → Prop} {ds es : List D} {α : Type} {f g : D → α} (h : A2 G ds es) (q : ∀ d e, G d e → f e = g d) : es.map f = ds.map g := by
  induction h with
  | nil => rfl
  | cons a _ ih => rw [List.map_cons, List.map_cons, ih, q _ _ a]
theorem dLc_rel {g : DGT} {tt : DBT} {te : DT} {ρl : En} {ho : Bool} {P : List D → Prop} {ds : List D} (G : D → D → Prop) (hz : ds.length ≤ sizeLine) (hn : ∀ d e, d ∈ ds → G d e → ho = true → noL e = true)
    (h1 : ∀ d ∈ ds, ∀ (T : R → En → Prop) (C0 : Prop), (∀ e r ρ4, r.isVar = false → vl ρ4 r = e → G d e → T r ρ4) → g d ρl fun ρ2 => tt ρ2 fun b ρ3 => if b = true then te ρ3 T else C0) (q : ∀ es, A2 G ds es → P es) : dLcL g tt te ρl ho ds [] P := by
  refine dLc_ind (fun rest acc => ∃ done, ds = done ++ rest ∧ A2 G done acc) (fun acc h => ?_) (fun d rest acc C h hC => ?_) ds [] ⟨[], rfl, .nil⟩
  · obtain ⟨done, e, a⟩ := h
    rw [List.append_nil] at e
    subst e
    exact q acc a
  · obtain ⟨done, e, a⟩ := h
    have hd : d ∈ ds := by rw [e]; simp
    refine h1 d hd _ _ fun x r ρ4 er ev gx => ?_
    have la : acc.length < sizeLine := by
      rw [a.len]
      have := congrArg List.length e
      rw [List.length_append, List.length_cons] at this
      omega
    refine ⟨la, er, fun z => by rw [ev]; exact hn d x hd gx z, hC _ ⟨done ++ [d], by rw [e]; simp, ?_⟩⟩
    rw [ev]
    exact a.snoc gx
theorem de_dnewF {p : Pos} : DE X B (.Dict [] [] p) tDNewK (dC (.dct [] [])) := by
  refine ⟨pe_dnewK, fun F ρ σ H P Q l w k p np => ?_⟩
  obtain ⟨l3, s3⟩ := l.newF (u := .dK []) np
  exact k (.dat _) _ _ ρ _ l3 s3 Kp.refl (Rv.dct upd_same rfl .nil) w
end
end Z

set_option Elab.async false
set_option linter.all false
set_option maxRecDepth 100000
namespace Z
open PySem L2
variable [TabsP]
/-! ## subsets -/
def subsL : Nat → List (List Nat)
  | 0 => [[]]
  | f + 1 => subsL f ++ (subsL f).map (· ++ [f])
def bitL (F b : Nat) : List Nat := (List.range F).filter fun f => decide (b / 2 ^ f % 2 = 1)
theorem bitL_lo {F b : Nat} (h : b < 2 ^ F) : bitL (F + 1) b = bitL F b := by
  unfold bitL
  rw [List.range_succ, List.filter_append]
  simp [Nat.div_eq_of_lt h]
theorem bitL_hi {F b : Nat} (h : b < 2 ^ F) : bitL (F + 1) (2 ^ F + b) = bitL F b ++ [F] := by
  unfold bitL
  rw [List.range_succ, List.filter_append]
  have e2 : [F].filter (fun f => decide ((2 ^ F + b) / 2 ^ f % 2 = 1)) = [F] := by
    have : (2 ^ F + b) / 2 ^ F = 1 := by
      rw [Nat.add_div_left _ (Nat.two_pow_pos F), Nat.div_eq_of_lt h]
    simp [this]
  rw [e2]
  congr 1
  refine List.filter_congr fun f hf => ?_
  have hf := List.mem_range.mp hf
  obtain ⟨k, rfl⟩ : ∃ k, F = f + 1 + k := ⟨F - (f + 1), by omega⟩
  have e : (2 ^ (f + 1 + k) + b) / 2 ^ f = 2 * 2 ^ k + b / 2 ^ f := by
    rw [show 2 ^ (f + 1 + k) = 2 ^ f * (2 * 2 ^ k) by rw [Nat.pow_add, Nat.pow_succ, Nat.mul_assoc], Nat.mul_add_div (Nat.two_pow_pos f)]
  rw [e, Nat.mul_add_mod]
theorem bits_subs : ∀ F : Nat, (List.range (2 ^ F)).map (bitL F) = subsL F
  | 0 => rfl
  | F + 1 => by
    rw [show 2 ^ (F + 1) = 2 ^ F + 2 ^ F by rw [Nat.pow_succ]; omega, List.range_add, List.map_append, List.map_map]
    show _ = subsL F ++ (subsL F).map (· ++ [F])
    rw [← bits_subs F, List.map_map]
    congr 1
    · exact List.map_congr_left fun b hb => bitL_lo (List.mem_range.mp hb)
    · exact List.map_congr_left fun b hb => bitL_hi (List.mem_range.mp hb)
theorem subs_mem : ∀ {F : Nat} {s : List Nat}, s ∈ subsL F → s.Pairwise (· < ·) ∧ ∀ x ∈ s, x < F
  | 0, s, h => by
    cases List.mem_singleton.mp h
    exact ⟨.nil, fun x hx => by cases hx⟩
  | F + 1, s, h => by
    rcases List.mem_append.mp h with h | h
    · obtain ⟨a, b⟩ := subs_mem h
      exact ⟨a, fun x hx => Nat.lt_succ_of_lt (b x hx)⟩
    · obtain ⟨t, ht, rfl⟩ := List.mem_map.mp h
      obtain ⟨a, b⟩ := subs_mem ht
      refine ⟨List.pairwise_append.mpr ⟨a, List.pairwise_singleton _ _, fun x hx y hy => ?_⟩, fun x hx => ?_⟩
      · cases List.mem_singleton.mp hy
        exact b x hx
      · rcases List.mem_append.mp hx with hx | hx
        · exact Nat.lt_succ_of_lt (b x hx)
        · cases List.mem_singleton.mp hx
          exact Nat.lt_succ_self _
theorem subs_nil : ∀ F : Nat, [] ∈ subsL F
  | 0 => List.mem_singleton.mpr rfl
  | F + 1 => List.mem_append_left _ (subs_nil F)
theorem subs_nodup : ∀ F : Nat, (subsL F).Nodup
  | 0 => List.nodup_cons.mpr ⟨by simp, List.nodup_nil⟩
  | F + 1 => by
    refine List.nodup_append.mpr ⟨subs_nodup F, ?_, fun a ha b hb e => ?_⟩
    · refine List.Pairwise.map _ (fun a b (h : a ≠ b) z => h ?_) (subs_nodup F)
      exact List.append_cancel_right z
    · subst e
      obtain ⟨t, ht, rfl⟩ := List.mem_map.mp hb
      have := (subs_mem ha).2 F (by simp)
      exact absurd this (Nat.lt_irrefl _)
theorem subs_len : ∀ F : Nat, (subsL F).length = 2 ^ F
  | 0 => rfl
  | F + 1 => by
    show (subsL F ++ (subsL F).map (· ++ [F])).length = _
    rw [List.length_append, List.length_map, subs_len F, Nat.pow_succ]
    omega
theorem subs_le : ∀ {F : Nat} {s : List Nat}, s ∈ subsL F → s.length ≤ F
  | 0, s, h => by cases List.mem_singleton.mp h; exact Nat.le_refl _
  | F + 1, s, h => by
    rcases List.mem_append.mp h with h | h
    · exact Nat.le_succ_of_le (subs_le h)
    · obtain ⟨t, ht, rfl⟩ := List.mem_map.mp h
      have := subs_le ht
      simp
      omega
theorem pow8 {F : Nat} (h : F ≤ 8) : 2 ^ F ≤ 256 := Nat.pow_le_pow_right (n := 2) (by decide) h
theorem nsD_app (a b : List Nat) : nsD (a ++ b) = nsD a ++ nsD b := List.map_append
def keepR (rs : List (Nat × Nat)) (s : List Nat) : Bool := rs.all fun r => !decide (r.1 ∈ s) || decide (r.2 ∈ s)
def keptL (F : Nat) (rs : List (Nat × Nat)) : List (List Nat) := (subsL F).filter (keepR rs)
/-! ## sorted by length, then by what is in them -/
def lkD (s : List Nat) : D := .tup [nD s.length, stD s]
def sortN (X : List (List Nat)) : List (List Nat) := X.mergeSort (PySem.W.dataLe false fun s => toPy (lkD s))
theorem zip_maps {α β γ : Type} (f : α → β) (g : α → γ) : ∀ l : List α, (l.map f).zip (l.map g) = l.map fun x => (f x, g x)
  | [] => rfl
  | x :: l => congrArg ((f x, g x) :: ·) (zip_maps f g l)
theorem toPyA_map {α : Type} (f : α → D) : ∀ l : List α, toPyA (l.map f) = l.map fun x => toPy (f x)
  | [] => rfl
  | x :: l => by
    show toPy (f x) :: toPyA (l.map f) = _
    rw [toPyA_map f l]
    rfl
theorem sortBy_st (X : List (List Nat)) : sortBy (X.map stD) (toPyA (X.map lkD)) = (sortN X).map stD := by
  unfold sortBy sortN
  rw [toPyA_map, zip_maps, ← PySem.W.sort_maps (r := PySem.W.dataLe false fun s => toPy (lkD s)) (fun s => (stD s, toPy (lkD s))) (fun a _ b _ => rfl), List.map_map]
  rfl
theorem sortN_perm (X : List (List Nat)) : (sortN X).Perm X := List.mergeSort_perm _ _
theorem toPy_key (s : List Nat) : toPy (lkD s) = .tuple [.int (s.length : Int), .tuple (s.map fun i : Nat => PyData.int (i : Int))] := by
  show PyData.tuple [.int (s.length : Int), .tuple (toPyA (nsD s))] = _
  unfold nsD
  rw [toPyA_map]
  rfl
theorem ints_map (s : List Nat) : s.map (fun i : Nat => PyData.int (i : Int)) = (s.map fun i : Nat => (i : Int)).map PyData.int := by
  rw [List.map_map]
  rfl
theorem key_alike (s t : List Nat) : PySem.W.alike (toPy (lkD s)) (toPy (lkD t)) = true := by
  rw [toPy_key, toPy_key, ints_map, ints_map]
  simp [PySem.W.alike, PySem.W.alikeAll, PySem.W.alike_ints, -List.map_map]
theorem key_le {s t : List Nat} (h : PySem.W.dataLe false (fun s => toPy (lkD s)) s t = true) : s.length ≤ t.length := by
  have h : (!PySem.W.dataLt (toPy (lkD t)) (toPy (lkD s))) = true := h
  rw [toPy_key, toPy_key, ints_map, ints_map, PySem.W.dataLt_pair (by simp [PySem.W.alike]) (by simp [PySem.W.alike, PySem.W.alike_ints, -List.map_map]), PySem.W.dataLt_int] at h
  simp only [PyData.eqv, beq_iff_eq] at h
  split at h
  · omega
  · simp at h
    exact h
theorem sortN_len (X : List (List Nat)) : (sortN X).Pairwise fun a b => a.length ≤ b.length :=
  (PySem.W.sort_pairwise (PySem.W.sortLe_total _ _ _) X).imp fun h => key_le h
theorem keys_ok (X : List (List Nat)) : KeysOk (X.map lkD) := by
  have all : ∀ d ∈ toPyA (X.map lkD), ∃ s, d = toPy (lkD s) := fun d hd => by
    rw [toPyA_map] at hd
    obtain ⟨s, _, rfl⟩ := List.mem_map.mp hd
    exact ⟨s, rfl⟩
  refine ⟨?_, fun d hd e he => ?_, .inl fun d hd => ?_, fun d hd => ?_⟩
  · induction X with
    | nil => rfl
    | cons s X ih =>
      show (pyd (lkD s) && pydA (X.map lkD)) = true
      rw [ih fun d hd => all d (List.mem_cons_of_mem _ hd), Bool.and_true]
      show (true && (pydA (nsD s) && true)) = true
      rw [nsD_I, pyd_ints]
      rfl
  · obtain ⟨s, rfl⟩ := all d hd
    obtain ⟨t, rfl⟩ := all e he
    exact key_alike s t
  · obtain ⟨s, rfl⟩ := all d hd
    rw [toPy_key]
    exact ⟨_, _, rfl⟩
  · obtain ⟨s, rfl⟩ := all d hd
    rw [toPy_key, ints_map]
    simp [PyData.depth, PyData.depthAll, PySem.W.depth_ints, -List.map_map]
/-! ## rows of lists, by length -/
structure RowsOk (Y : List (List Nat)) : Prop where
  nd : Y.Nodup
  ln : Y.Pairwise fun a b => a.length ≤ b.length
  em : [] ∈ Y
theorem getD_eq {Y : List (List Nat)} {x : Nat} (h : x < Y.length) : Y.getD x [] = Y[x] := by simp [List.getD, h]
theorem RowsOk.lt {Y : List (List Nat)} (r : RowsOk Y) {x y : Nat} (hx : x < Y.length) (hy : y < Y.length) (h : (Y.getD x []).length < (Y.getD y []).length) : x < y := by
  apply Classical.byContradiction
  intro z
  have : y ≠ x := fun e => by subst e; omega
  have := List.pairwise_iff_getElem.mp r.ln y x hy hx (by omega)
  rw [getD_eq hx, getD_eq hy] at h
  omega
theorem RowsOk.inj {Y : List (List Nat)} (r : RowsOk Y) {x y : Nat} (hx : x < Y.length) (hy : y < Y.length) (h : Y.getD x [] = Y.getD y []) : x = y := by
  rw [getD_eq hx, getD_eq hy] at h
  rcases Nat.lt_trichotomy x y with z | z | z
  · exact absurd h (List.pairwise_iff_getElem.mp r.nd x y hx hy z)
  · exact z
  · exact absurd h.symm (List.pairwise_iff_getElem.mp r.nd y x hy hx z)
theorem RowsOk.zero {Y : List (List Nat)} (r : RowsOk Y) : 0 < Y.length ∧ Y.getD 0 [] = [] := by
  obtain ⟨i, hi, e⟩ := List.mem_iff_getElem.mp r.em
  have h0 : 0 < Y.length := by omega
  refine ⟨h0, ?_⟩
  by_cases z : i = 0
  · subst z
    rw [getD_eq h0, e]
  · have := List.pairwise_iff_getElem.mp r.ln 0 i h0 hi (by omega)
    rw [e] at this
    rw [getD_eq h0]
    exact List.length_eq_zero_iff.mp (Nat.le_zero.mp this)
theorem asc_sub : ∀ {b a : List Nat}, a.Pairwise (· < ·) → b.Pairwise (· < ·) → (∀ x ∈ a, x ∈ b) → a.Sublist b
  | [], a, _, _, h => by
    cases a with
    | nil => exact .slnil
    | cons x a => cases h x (by simp)
  | y :: b, [], _, _, _ => List.nil_sublist _
  | y :: b, x :: a, ha, hb, h => by
    obtain ⟨ha1, ha2⟩ := List.pairwise_cons.mp ha
    obtain ⟨hb1, hb2⟩ := List.pairwise_cons.mp hb
    by_cases e : x = y
    · subst e
      refine (asc_sub ha2 hb2 fun z hz => ?_).cons₂ x
      rcases List.mem_cons.mp (h z (by simp [hz])) with q | q
      · subst q
        exact absurd (ha1 _ hz) (Nat.lt_irrefl _)
      · exact q
    · have hx : x ∈ b := by
        rcases List.mem_cons.mp (h x (by simp)) with q | q
        · exact absurd q e
        · exact q
      refine (asc_sub ha hb2 fun z hz => ?_).cons y
      rcases List.mem_cons.mp (h z hz) with q | q
      · subst q
        have := hb1 _ hx
        rcases List.mem_cons.mp hz with q | q
        · omega
        · have := ha1 _ q
          omega
      · exact q
def inB (Y : List (List Nat)) (x y : Nat) : Bool := (Y.getD x []).all fun f => decide (f ∈ Y.getD y [])
theorem inB_iff {Y : List (List Nat)} {x y : Nat} : inB Y x y = true ↔ ∀ f ∈ Y.getD x [], f ∈ Y.getD y [] := by
  unfold inB
  simp
theorem po_sets {Y : List (List Nat)} (r : RowsOk Y) (asc : ∀ s ∈ Y, s.Pairwise (· < ·)) (h : Y.length ≤ 24) : PO Y.length (inB Y) id := by
  have aa : ∀ x, x < Y.length → (Y.getD x []).Pairwise (· < ·) := fun x hx => asc _ (by rw [getD_eq hx]; exact List.getElem_mem hx)
  refine ⟨r.zero.1, h, fun x _ => inB_iff.mpr fun f hf => hf, fun x y z _ _ _ h1 h2 => inB_iff.mpr fun f hf => inB_iff.mp h2 f (inB_iff.mp h1 f hf), fun y _ => inB_iff.mpr fun f hf => ?_, fun x y hx hy ne q => ?_⟩
  · rw [r.zero.2] at hf
    cases hf
  · have sl := asc_sub (aa x hx) (aa y hy) (inB_iff.mp q)
    rcases Nat.lt_or_ge (Y.getD x []).length (Y.getD y []).length with z | z
    · exact r.lt hx hy z
    · exact absurd (r.inj hx hy (sl.eq_of_length (Nat.le_antisymm sl.length_le z))) ne
theorem rows_sets (F : Nat) (rs : List (Nat × Nat)) : RowsOk (sortN (keptL F rs)) ∧ ∀ s ∈ sortN (keptL F rs), s.Pairwise (· < ·) ∧ s.length ≤ F := by
  have p := sortN_perm (keptL F rs)
  refine ⟨⟨p.nodup_iff.mpr ((subs_nodup F).filter _), sortN_len _, p.mem_iff.mpr (List.mem_filter.mpr ⟨subs_nil F, ?_⟩)⟩, fun s hs => ⟨(subs_mem (List.mem_filter.mp (p.mem_iff.mp hs)).1).1, subs_le (List.mem_filter.mp (p.mem_iff.mp hs)).1⟩⟩
  unfold keepR
  simp
/-! ## words -/
def levL (L : Nat) : Nat → List (List Nat)
  | 0 => [[]]
  | k + 1 => (levL L k).flatMap fun w => (List.range L).map fun l => w ++ [l]
def wordsL (L : Nat) : Nat → List (List Nat)
  | 0 => [[]]
  | k + 1 => wordsL L k ++ levL L (k + 1)
theorem lev_mem {L : Nat} : ∀ {k : Nat} {w : List Nat}, w ∈ levL L k → w.length = k
  | 0, w, h => by cases List.mem_singleton.mp h; rfl
  | k + 1, w, h => by
    obtain ⟨v, hv, h2⟩ := List.mem_flatMap.mp h
    obtain ⟨l, hl, rfl⟩ := List.mem_map.mp h2
    rw [List.length_append, lev_mem hv]
    rfl
theorem lev_drop {L : Nat} {k : Nat} {w : List Nat} (h : w ∈ levL L (k + 1)) : w.dropLast ∈ levL L k := by
  obtain ⟨v, hv, h2⟩ := List.mem_flatMap.mp h
  obtain ⟨l, hl, rfl⟩ := List.mem_map.mp h2
  rw [List.dropLast_concat]
  exact hv
theorem lev_nodup {L : Nat} : ∀ k : Nat, (levL L k).Nodup
  | 0 => List.nodup_cons.mpr ⟨by simp, List.nodup_nil⟩
  | k + 1 => by
    refine List.pairwise_flatMap.mpr ⟨fun v _ => ?_, ?_⟩
    · refine List.Pairwise.map _ (fun a b (h : a ≠ b) z => h ?_) (List.nodup_range (n := L))
      simpa using z
    · refine (lev_nodup k).imp fun {a b} ne => ?_
      intro w h1 v h2 e
      obtain ⟨l, _, rfl⟩ := List.mem_map.mp h1
      obtain ⟨m, _, rfl⟩ := List.mem_map.mp h2
      have := congrArg List.dropLast e
      rw [List.dropLast_concat, List.dropLast_concat] at this
      exact ne this
theorem words_mem {L : Nat} : ∀ {d : Nat} {w : List Nat}, w ∈ wordsL L d ↔ w.length ≤ d ∧ w ∈ levL L w.length
  | 0, w => by
    constructor
    · intro h
      cases List.mem_singleton.mp h
      exact ⟨Nat.le_refl _, List.mem_singleton.mpr rfl⟩
    · intro ⟨h, _⟩
      have := List.length_eq_zero_iff.mp (Nat.le_zero.mp h)
      subst this
      exact List.mem_singleton.mpr rfl
  | d + 1, w => by
    constructor
    · intro h
      rcases List.mem_append.mp h with h | h
      · obtain ⟨a, b⟩ := words_mem.mp h
        exact ⟨Nat.le_succ_of_le a, b⟩
      · have := lev_mem h
        exact ⟨Nat.le_of_eq this, by rw [this]; exact h⟩
    · intro ⟨h1, h2⟩
      rcases Nat.lt_or_ge d w.length with z | z
      · have : w.length = d + 1 := by omega
        rw [this] at h2
        exact List.mem_append_right _ h2
      · exact List.mem_append_left _ (words_mem.mpr ⟨z, h2⟩)
theorem rows_words (L : Nat) : ∀ d : Nat, RowsOk (wordsL L d)
  | 0 => ⟨List.nodup_cons.mpr ⟨by simp, List.nodup_nil⟩, List.pairwise_singleton _ _, List.mem_singleton.mpr rfl⟩
  | d + 1 => by
    obtain ⟨a, b, c⟩ := rows_words L d
    refine ⟨List.nodup_append.mpr ⟨a, lev_nodup _, fun x hx y hy e => ?_⟩, List.pairwise_append.mpr ⟨b, ?_, fun x hx y hy => ?_⟩, List.mem_append_left _ c⟩
    · subst e
      have h1 := (words_mem.mp hx).1
      have h2 := lev_mem hy
      omega
    · refine List.pairwise_iff_getElem.mpr fun i j hi hj _ => ?_
      rw [lev_mem (List.getElem_mem hi), lev_mem (List.getElem_mem hj)]
      exact Nat.le_refl _
    · have h1 := (words_mem.mp hx).1
      have h2 := lev_mem hy
      omega
theorem words_drop {L d : Nat} {w : List Nat} (h : w ∈ wordsL L d) (ne : w ≠ []) : w.dropLast ∈ wordsL L d := by
  obtain ⟨h1, h2⟩ := words_mem.mp h
  obtain ⟨k, e⟩ : ∃ k, w.length = k + 1 := ⟨w.length - 1, by have := List.length_pos_iff.mpr ne; omega⟩
  rw [e] at h2
  have l : w.dropLast.length = k := by rw [List.length_dropLast, e]; rfl
  exact words_mem.mpr ⟨by omega, by rw [l]; exact lev_drop h2⟩
def preB (Y : List (List Nat)) (x y : Nat) : Bool := decide ((Y.getD y []).take (Y.getD x []).length = Y.getD x [])
theorem preB_iff {Y : List (List Nat)} {x y : Nat} : preB Y x y = true ↔ Y.getD x [] <+: Y.getD y [] := by
  unfold preB
  rw [decide_eq_true_eq, List.prefix_iff_eq_take]
  exact ⟨Eq.symm, Eq.symm⟩
theorem po_words {Y : List (List Nat)} (r : RowsOk Y) (h : Y.length ≤ 24) : PO Y.length (preB Y) id := by
  refine ⟨r.zero.1, h, fun x _ => preB_iff.mpr (List.prefix_refl _), fun x y z _ _ _ h1 h2 => preB_iff.mpr ((preB_iff.mp h1).trans (preB_iff.mp h2)), fun y _ => preB_iff.mpr (by rw [r.zero.2]; exact List.nil_prefix), fun x y hx hy ne q => ?_⟩
  have pr := preB_iff.mp q
  rcases Nat.lt_or_ge (Y.getD x []).length (Y.getD y []).length with z | z
  · exact r.lt hx hy z
  · exact absurd (r.inj hx hy (pr.eq_of_length (Nat.le_antisymm pr.length_le z))) ne
/-- where a word without its last letter stands -/
theorem words_cover {Y : List (List Nat)} (r : RowsOk Y) {x y z : Nat} (hx : x < Y.length) (hy : y < Y.length) (hz : z < Y.length) (e : Y.getD z [] = (Y.getD y []).dropLast) (c : cvB Y.length (preB Y) x y = true) : Y.getD y [] ≠ [] ∧ x = z := by
  obtain ⟨c1, c2⟩ := cvB_iff.mp c
  obtain ⟨ne, q⟩ := sB_iff.mp c1
  have pr := preB_iff.mp q
  have lt : (Y.getD x []).length < (Y.getD y []).length := by
    rcases Nat.lt_or_ge (Y.getD x []).length (Y.getD y []).length with w | w
    · exact w
    · exact absurd (r.inj hx hy (pr.eq_of_length (Nat.le_antisymm pr.length_le w))).symm ne
  have y0 : Y.getD y [] ≠ [] := fun w => by rw [w] at lt; simp at lt
  refine ⟨y0, ?_⟩
  apply Classical.byContradiction
  intro nz
  have p2 : Y.getD z [] <+: Y.getD y [] := by rw [e]; exact List.dropLast_prefix _
  have p1 : Y.getD x [] <+: Y.getD z [] := List.prefix_of_prefix_length_le pr p2 (by rw [e, List.length_dropLast]; omega)
  refine c2 z hz ⟨sB_iff.mpr ⟨Ne.symm nz, preB_iff.mpr p1⟩, sB_iff.mpr ⟨fun w => ?_, preB_iff.mpr p2⟩⟩
  subst w
  have := congrArg List.length e
  rw [List.length_dropLast] at this
  omega
end Z

set_option Elab.async false
set_option linter.all false
set_option maxRecDepth 100000
namespace Z
open PySem L2
variable [TabsP]
local macro_rules | `(tactic| walk_at "d") => `(tactic| simp only [dSq, dIf, dOr, dAnd, dNot, dTT, dTB, dUn, dBin, dVar, dC, dRet, dNext, dOrV, dAndV, dNotT, dIfE, isiD, OV.isOwn, startD, List.map_cons, List.map_nil, List.cons_append, List.nil_append, List.append_nil, List.length_cons, List.length_nil, List.replicate, Nat.reduceAdd, Nat.reduceSub, Nat.sub_self, Nat.add_sub_cancel,
  List.getElem?_cons_zero, List.getElem?_cons_succ, bOk, iv_d, iv_n, iv_v, nr_d, nr_n, List.any_cons, List.any_nil, Bool.or_false, Bool.or_true, Bool.false_eq_true, Bool.not_true, Bool.not_false, false_implies, true_and, and_true, if_true, if_false, ite_true, ite_false, forall_const, reduceIte, reduceCtorEq,
  d0_1, dI_1, ad_i, ad_t, ad_l, ng_1, dCa, dCall0, dCons, dNil, dTup, dLst, dEq, dSeq, dRange, dEnum, dRg1, dRg2, dListRg, dTupRg, dSl, dONone, dOSome, dCall, mv_d, mv_n, mv_v, nn_n, nn_b, nn_i, nn_s, nn_l, nn_t, nn_x, nn_d, dSetF, dSetO, dDrop, dFor, dgName, dgTup, dgCons, dgNil, dRetN, dYes, it_1, pm_1, nmR, dXf, dIsE, sq_l, sq_t, sq_x, tr_n, tr_b, tr_i, tr_l, tr_t, tr_x, tr_d, vl_d, vl_n, vl_v, fr_d, fr_o, fr_k, sl_l, sl_t, sl_x, le_1, li_1, tu_1, tu_l, tu_t, tu_x, tx_1, tx_l, tx_t, tx_x, rr_d, rr_n, rr_v, in_1, ix_1, dt_1, isB_1, dCallT, dIdx, dRaise, dAsg, dDnew, List.set_cons_zero, List.set_cons_succ, noOwnAt, List.all_cons, List.all_nil, wipeE, lent, hasOwn, Option.map_some, Option.map_none, dLc, lt_n, pl_n, tyB_n, tyI_n, tyS_n, tyL_n, tyT_n, lt_b, pl_b, tyB_b, tyI_b, tyS_b, tyL_b, tyT_b, lt_i, pl_i, tyB_i, tyI_i, tyS_i, tyL_i, tyT_i, lt_s, pl_s, tyB_s, tyI_s, tyS_s, tyL_s, tyT_s, lt_l, pl_l, tyB_l, tyI_l, tyS_l, tyL_l, tyT_l, lt_t, pl_t, tyB_t, tyI_t, tyS_t, tyL_t, tyT_t, lt_x, pl_x, tyB_x, tyI_x, tyS_x, tyL_x, tyT_x, lt_d, pl_d, tyB_d, tyI_d, tyS_d, tyL_d, tyT_d, noL, noLA, Bool.and_true, Bool.true_and])
local macro_rules | `(tactic| walk_at "e") => `(tactic| first | exact ⟨_, rfl, rfl⟩ | rfl)
abbrev s_cst : Stmt := top 21
abbrev s_chain : Stmt := top 23
abbrev s_flat : Stmt := top 24
section
variable {P : Program} {w : World} {K : PySem.W.Frag} {mg : Str → Option Value} {base : Heap}
theorem sc_cst : FnScope ["n"] ["n"] (defScope s_cst) := ⟨rfl, rfl, rfl, by decide +kernel, rfl, by decide +kernel, by decide +kernel⟩
theorem sc_chain : FnScope ["n", "state"] ["n"] (defScope s_chain) := ⟨rfl, rfl, rfl, by decide +kernel, rfl, by decide +kernel, by decide +kernel⟩
theorem sc_flat : FnScope ["n", "state"] ["n"] (defScope s_flat) := ⟨rfl, rfl, rfl, by decide +kernel, rfl, by decide +kernel, by decide +kernel⟩
def wCst (bm : Addr) : DW := fun ds Q ex => ∃ d, ds = [d] ∧ plainD d = true ∧ (wholeD d (some 1) (some 24) = true → Q (.dat .non)) ∧ (wholeD d (some 1) (some 24) = false → ex bm (bmX "states"))
theorem ok_cst {bm f : Addr} {fd : FuncData} (F : Fun K "_check_states" "_check_states" s_cst f fd) (T : Bl mg) (g24 : ∃ t, mg "MOST_STATES" = some (.int 24 t)) (xBadMake : ExK P w K mg base "BadMake" bm ["what", "at"]) (cis_whole : Cal P w K mg base CX0 "is_whole" 1 (spD K wWhole)) :
    FnOk P w K mg base (L2.CX P w) 3 f fd ["n"] (spD K (wCst bm)) := by
  obtain ⟨t24, g24⟩ := g24
  refine okDX F sc_cst (fun ds Q ex h => ?_) (fun cdv A outer s H E hr md F0 a0 ex hl => ⟨_, _,
      (dss_one (ds_if (dt_not (dt_truth K (de_call cis_whole (hr.mono (by decide)) (by rfl) (da_cons (de_var (pv 0)) (da_cons de_int (da_cons (de_cst (pe_glob (v := .int 24) (by rfl) g24 ⟨_, rfl⟩) fun _ => .int _) da_nil))))))
        (dss_one (ds_raise xBadMake (takes_of rfl rfl rfl rfl) rfl (hr.mono (by decide)) (by rfl) (lxt_fn hl) (da_cons de_str (da_cons de_int da_nil))))
        dss_nil))
      , fun ds Q h => ?_⟩)
  · obtain ⟨_, rfl, _⟩ := h
    rfl
  · obtain ⟨d, rfl, pd, h1, h2⟩ := h
    walk_at "d"
    refine ⟨_, _, _, some 1, some 24, rfl, rfl, rfl, pd, ?_⟩
    cases e : wholeD d (some 1) (some 24) with
    | true =>
      walk_at "d"
      exact h1 e
    | false =>
      walk_at "d"
      exact ⟨by decide, h2 e⟩
theorem whole_nat {d : D} {lo hi : Int} (h0 : 0 ≤ lo) (h : wholeD d (some lo) (some hi) = true) : ∃ n : Nat, d = .int (n : Int) ∧ lo ≤ (n : Int) ∧ (n : Int) ≤ hi := by
  unfold wholeD at h
  split at h
  · rename_i i
    simp only [Bool.and_eq_true, decide_eq_true_eq] at h
    exact ⟨i.toNat, by rw [Int.toNat_of_nonneg (by omega)], by omega, by omega⟩
  · cases h
def chB (x y : Nat) : Bool := decide (x ≤ y)
def flB (x y : Nat) : Bool := decide (x = y) || decide (x = 0)
theorem po_ch {n : Nat} (h1 : 1 ≤ n) (h2 : n ≤ 24) : PO n chB id := by
  unfold chB
  refine ⟨h1, h2, fun x _ => by simp, fun x y z _ _ _ a b => ?_, fun y _ => by simp, fun x y _ _ ne a => ?_⟩
  · simp only [decide_eq_true_eq] at a b ⊢
    omega
  · simp only [decide_eq_true_eq] at a
    show x < y
    omega
theorem po_fl {n : Nat} (h1 : 1 ≤ n) (h2 : n ≤ 24) : PO n flB id := by
  unfold flB
  refine ⟨h1, h2, fun x _ => by simp, fun x y z _ _ _ a b => ?_, fun y _ => by simp, fun x y _ _ ne a => ?_⟩
  · simp only [decide_eq_true_eq, Bool.or_eq_true] at a b ⊢
    omega
  · simp only [decide_eq_true_eq, Bool.or_eq_true] at a
    show x < y
    omega
def wMk1 (C bm : Addr) (M : Nat → Nat → Bool) : DW := fun ds Q ex => ∃ d, ds = [d] ∧ plainD d = true ∧ (∀ n : Nat, d = .int (n : Int) → 1 ≤ n → n ≤ 24 → Q (.dat (ordV C n (sB M)))) ∧ (wholeD d (some 1) (some 24) = false → ex bm (bmX "states"))
theorem ok_chain {C bm f : Addr} {fd : FuncData} (F : Fun K "chain_order" "chain_order" s_chain f fd) (T : Bl mg) (oOrder : MkI P w K mg base (L2.CX P w) "Order" C 4 (spI K C ordNs wOI)) (c_check_states : Cal P w K mg base (L2.CX P w) "_check_states" 3 (spD K (wCst bm))) :
    FnOk P w K mg base (L2.CX P w) 6 f fd ["n"] (spD K (wMk1 C bm chB)) := by
  refine okDX F sc_chain (fun ds Q ex h => ?_) (fun cdv A outer s H E hr md F0 a0 ex hl => ⟨_, _,
      (dss_cons (ds_expr (de_callT c_check_states.v (hr.mono (by decide)) (by rfl) (takes_of rfl rfl rfl rfl) (lxt_fn hl) (fun _ => .nil) (da_cons (de_var (pv 0)) da_nil)))
      (dss_one (ds_ret (de_make oOrder (hr.mono (by decide)) (by rfl) (takes_of rfl rfl rfl rfl) (lxt_fn hl) (da_cons (de_var (pv 0)) (da_cons (de_lc (own := [("state", 1)]) rfl sc_chain.nd (di_range1 (by rfl) T.n_range (de_op op_sub opd_I0 (de_var (pv 0)) de_int)) (blkOk_by (own := [("state", 1)]) (by show blkC ["n", "state"] (defScope s_chain) _ _ = true; decide +kernel)) (fun _ _ _ _ _ _ _ _ => (dg_name (i := 1) sc_chain.nd rfl (Or.inl rfl))) (fun _ _ _ _ _ _ _ _ => dps_nil) (fun _ _ _ _ _ _ _ _ => (de_tup (da_cons (de_var (pv 1)) (da_cons (de_op (op_addA K) opd_add (de_var (pv 1)) de_int) da_nil)))) (by decide) s) da_nil))))))
      , fun ds Q h => ?_⟩)
  · obtain ⟨_, rfl, _⟩ := h
    rfl
  · obtain ⟨d, rfl, pd, h1, h2⟩ := h
    refine sq_go fun S hS => ?_
    walk_at "d"
    refine ⟨d, rfl, pd, fun z => hS _ ?_, h2⟩
    clear hS S
    obtain ⟨n, rfl, l1, l2⟩ := whole_nat (by decide) z
    have n1 : 1 ≤ n := by omega
    have n24 : n ≤ 24 := by omega
    have h1 := h1 n rfl n1 n24
    unfold dMake
    walk_at "d"
    rw [show (n : Int) - 1 = ((n - 1 : Nat) : Int) by omega, rgD_n]
    refine ⟨r62_0, r62 (by omega), dLc_ns (fun _ => true) (fun i => cpD (i, i + 1)) (by rw [List.length_range]; omega) (fun _ _ e => by cases e) (fun i hi T C0 g1 _ => ?_) ?_⟩
    · walk_at "d"
      exact ⟨by decide, g1 rfl _ _ rfl rfl⟩
    · rw [flt_true]
      rw [show (List.range (n - 1)).map (fun i => cpD (i, i + 1)) = ((List.range (n - 1)).map fun i => (i, i + 1)).map cpD by rw [List.map_map]; rfl]
      refine (po_ch n1 n24).oiL (.inl rfl) (by rw [List.length_map, List.length_range]; omega) (fun z hz => ?_) (fun x y hx hy c => ?_) h1
      · obtain ⟨i, hi, rfl⟩ := List.mem_map.mp hz
        have hi := List.mem_range.mp hi
        refine ⟨by simp; omega, by simp; omega, ?_⟩
        simp [sB, chB]
      · obtain ⟨c1, c2⟩ := cvB_iff.mp c
        have c1 : y ≠ x ∧ x ≤ y := by simpa [sB, chB] using c1
        refine List.mem_map.mpr ⟨x, List.mem_range.mpr (by omega), ?_⟩
        have : y = x + 1 := by
          apply Classical.byContradiction
          intro ne
          refine c2 (x + 1) (by omega) ⟨by simp [sB, chB], ?_⟩
          simp [sB, chB]
          omega
        rw [this]
theorem ok_flat {C bm f : Addr} {fd : FuncData} (F : Fun K "flat_order" "flat_order" s_flat f fd) (T : Bl mg) (oOrder : MkI P w K mg base (L2.CX P w) "Order" C 4 (spI K C ordNs wOI)) (c_check_states : Cal P w K mg base (L2.CX P w) "_check_states" 3 (spD K (wCst bm))) :
    FnOk P w K mg base (L2.CX P w) 6 f fd ["n"] (spD K (wMk1 C bm flB)) := by
  refine okDX F sc_flat (fun ds Q ex h => ?_) (fun cdv A outer s H E hr md F0 a0 ex hl => ⟨_, _,
      (dss_cons (ds_expr (de_callT c_check_states.v (hr.mono (by decide)) (by rfl) (takes_of rfl rfl rfl rfl) (lxt_fn hl) (fun _ => .nil) (da_cons (de_var (pv 0)) da_nil)))
      (dss_one (ds_ret (de_make oOrder (hr.mono (by decide)) (by rfl) (takes_of rfl rfl rfl rfl) (lxt_fn hl) (da_cons (de_var (pv 0)) (da_cons (de_lc (own := [("state", 1)]) rfl sc_flat.nd (di_range2 (by rfl) T.n_range de_int (de_var (pv 0))) (blkOk_by (own := [("state", 1)]) (by show blkC ["n", "state"] (defScope s_flat) _ _ = true; decide +kernel)) (fun _ _ _ _ _ _ _ _ => (dg_name (i := 1) sc_flat.nd rfl (Or.inl rfl))) (fun _ _ _ _ _ _ _ _ => dps_nil) (fun _ _ _ _ _ _ _ _ => (de_tup (da_cons de_int (da_cons (de_var (pv 1)) da_nil)))) (by decide) s) da_nil))))))
      , fun ds Q h => ?_⟩)
  · obtain ⟨_, rfl, _⟩ := h
    rfl
  · obtain ⟨d, rfl, pd, h1, h2⟩ := h
    refine sq_go fun S hS => ?_
    walk_at "d"
    refine ⟨d, rfl, pd, fun z => hS _ ?_, h2⟩
    clear hS S
    obtain ⟨n, rfl, l1, l2⟩ := whole_nat (by decide) z
    have n1 : 1 ≤ n := by omega
    have n24 : n ≤ 24 := by omega
    have h1 := h1 n rfl n1 n24
    unfold dMake
    walk_at "d"
    rw [show rgD 1 (n : Int) = nsD ((List.range (n - 1)).map (1 + ·)) from rgD_an 1 n]
    refine ⟨r62_1, r62 (by omega), dLc_ns (fun _ => true) (fun i => cpD (0, i)) (by rw [List.length_map, List.length_range]; omega) (fun _ _ e => by cases e) (fun i hi T C0 g1 _ => ?_) ?_⟩
    · walk_at "d"
      exact ⟨by decide, g1 rfl _ _ rfl rfl⟩
    · rw [flt_true]
      rw [show ((List.range (n - 1)).map (1 + ·)).map (fun i => cpD (0, i)) = ((List.range (n - 1)).map fun i => (0, 1 + i)).map cpD by rw [List.map_map, List.map_map]; rfl]
      refine (po_fl n1 n24).oiL (.inl rfl) (by rw [List.length_map, List.length_range]; omega) (fun z hz => ?_) (fun x y hx hy c => ?_) h1
      · obtain ⟨i, hi, rfl⟩ := List.mem_map.mp hz
        have hi := List.mem_range.mp hi
        refine ⟨by simp; omega, by simp; omega, ?_⟩
        simp [sB, flB]
      · obtain ⟨c1, c2⟩ := cvB_iff.mp c
        have c1 : y ≠ x ∧ (x = y ∨ x = 0) := by simpa [sB, flB] using c1
        refine List.mem_map.mpr ⟨y - 1, List.mem_range.mpr (by omega), ?_⟩
        rw [Prod.mk.injEq]
        omega
end
end Z

set_option Elab.async false
set_option linter.all false
set_option maxRecDepth 100000
namespace Z
open PySem L2
variable [TabsP]
local macro_rules | `(tactic| walk_at "d") => `(tactic| simp only [dSq, dIf, dOr, dAnd, dNot, dTT, dTB, dUn, dBin, dVar, dC, dRet, dNext, dOrV, dAndV, dNotT, dIfE, isiD, OV.isOwn, startD, List.map_cons, List.map_nil, List.cons_append, List.nil_append, List.append_nil, List.length_cons, List.length_nil, List.replicate, Nat.reduceAdd, Nat.reduceSub, Nat.sub_self, Nat.add_sub_cancel,
  List.getElem?_cons_zero, List.getElem?_cons_succ, bOk, iv_d, iv_n, iv_v, nr_d, nr_n, List.any_cons, List.any_nil, Bool.or_false, Bool.or_true, Bool.false_eq_true, Bool.not_true, Bool.not_false, false_implies, true_and, and_true, if_true, if_false, ite_true, ite_false, forall_const, reduceIte, reduceCtorEq,
  d0_1, dI_1, ad_i, ad_t, ad_l, ng_1, dCa, dCall0, dCons, dNil, dTup, dLst, dEq, dSeq, dRange, dEnum, dRg1, dRg2, dListRg, dTupRg, dSl, dONone, dOSome, dCall, mv_d, mv_n, mv_v, nn_n, nn_b, nn_i, nn_s, nn_l, nn_t, nn_x, nn_d, dSetF, dSetO, dDrop, dFor, dgName, dgTup, dgCons, dgNil, dRetN, dYes, it_1, pm_1, nmR, dXf, dIsE, sq_l, sq_t, sq_x, tr_n, tr_b, tr_i, tr_l, tr_t, tr_x, tr_d, vl_d, vl_n, vl_v, fr_d, fr_o, fr_k, sl_l, sl_t, sl_x, le_1, li_1, tu_1, tu_l, tu_t, tu_x, tx_1, tx_l, tx_t, tx_x, rr_d, rr_n, rr_v, in_1, ix_1, dt_1, isB_1, dCallT, dIdx, dRaise, dAsg, dDnew, List.set_cons_zero, List.set_cons_succ, noOwnAt, List.all_cons, List.all_nil, wipeE, lent, hasOwn, Option.map_some, Option.map_none, dLc, lt_n, pl_n, tyB_n, tyI_n, tyS_n, tyL_n, tyT_n, lt_b, pl_b, tyB_b, tyI_b, tyS_b, tyL_b, tyT_b, lt_i, pl_i, tyB_i, tyI_i, tyS_i, tyL_i, tyT_i, lt_s, pl_s, tyB_s, tyI_s, tyS_s, tyL_s, tyT_s, lt_l, pl_l, tyB_l, tyI_l, tyS_l, tyL_l, tyT_l, lt_t, pl_t, tyB_t, tyI_t, tyS_t, tyL_t, tyT_t, lt_x, pl_x, tyB_x, tyI_x, tyS_x, tyL_x, tyT_x, lt_d, pl_d, tyB_d, tyI_d, tyS_d, tyL_d, tyT_d, noL, noLA, Bool.and_true, Bool.true_and])
local macro_rules | `(tactic| walk_at "e") => `(tactic| first | exact ⟨_, rfl, rfl⟩ | rfl)
abbrev s_cf : Stmt := top 25
abbrev s_kr : Stmt := top 26
section
variable {P : Program} {w : World} {K : PySem.W.Frag} {mg : Str → Option Value} {base : Heap}
theorem sc_cf : FnScope ["facts", "rules", "at", "rule"] ["facts", "rules"] (defScope s_cf) := ⟨rfl, rfl, rfl, by decide +kernel, rfl, by decide +kernel, by decide +kernel⟩
theorem sc_kr : FnScope ["kept", "rules", "a", "b"] ["kept", "rules"] (defScope s_kr) := ⟨rfl, rfl, rfl, by decide +kernel, rfl, by decide +kernel, by decide +kernel⟩
def bmA (what : Str) (at_ : Nat) : List (Str × D) := [("at", .int (at_ : Int)), ("what", .str what)]
/-- the first that is no couple -/
def badAt (F : Nat) : Nat → List D → Option Nat
  | _, [] => none
  | k, x :: xs => if cplB F x = true then badAt F (k + 1) xs else some k
def cfR (F : Nat) (r : D) : Option (Str × Nat) := match seqOfD r with
  | none => some ("rules", 0)
  | some xs => if 64 < xs.length then some ("rules", 0) else (badAt F 0 xs).map fun k => ("rule", k)
structure PlR (r : D) : Prop where
  p : plainD r = true
  a : ∀ xs, seqOfD r = some xs → ∀ x ∈ xs, PlD x
/-- what is refused of facts and rules -/
def cfO (a r : D) : Option (Str × Nat) := if wholeD a (some 0) (some 8) = true then (match a with | .int i => cfR i.toNat r | _ => none) else some ("facts", 0)
def wCf (bm : Addr) : DW := fun ds Q ex => ∃ a r, ds = [a, r] ∧ plainD a = true ∧ PlR r ∧ (cfO a r = none → Q (.dat .non)) ∧ ∀ what k, cfO a r = some (what, k) → ex bm (bmA what k)
theorem ok_cf {bm f : Addr} {fd : FuncData} (F : Fun K "_check_facts" "_check_facts" s_cf f fd) (T : Bl mg) (g8 : ∃ t, mg "MOST_FACTS" = some (.int 8 t)) (g64 : ∃ t, mg "MOST_RULES" = some (.int 64 t)) (xBadMake : ExK P w K mg base "BadMake" bm ["what", "at"])
    (cis_whole : Cal P w K mg base CX0 "is_whole" 1 (spD K wWhole)) (cis_sequence : Cal P w K mg base CX0 "is_sequence" 1 (spD K wIsSeq)) (cis_couple : Cal P w K mg base CX0 "is_couple" 2 (spD K wCouple)) :
    FnOk P w K mg base (L2.CX P w) 3 f fd ["facts", "rules"] (spD K (wCf bm)) := by
  obtain ⟨t8, g8⟩ := g8
  obtain ⟨t64, g64⟩ := g64
  refine okDX F sc_cf (fun ds Q ex h => ?_) (fun cdv A outer s H E hr md F0 a0 ex hl => ⟨_, _,
      (dss_cons (ds_if (dt_not (dt_truth K (de_call cis_whole (hr.mono (by decide)) (by rfl) (da_cons (de_var (pv 0)) (da_cons de_int (da_cons (de_cst (pe_glob (v := .int 8) (by rfl) g8 ⟨_, rfl⟩) fun _ => .int _) da_nil))))))
        (dss_one (ds_raise xBadMake (takes_of rfl rfl rfl rfl) rfl (hr.mono (by decide)) (by rfl) (lxt_fn hl) (da_cons de_str (da_cons de_int da_nil))))
        dss_nil)
      (dss_cons (ds_if (DWs.ts (dw_or (dt_not (dt_truth K (de_call cis_sequence (hr.mono (by decide)) (by rfl) (da_cons (de_var (pv 1)) da_nil)))) (dw_or1 (dt_cmp op_gt opd_B0 (de_callB (klen K) cad_len (by rfl) T.n_len PySem.boot_len (da_cons (de_var (pv 1)) da_nil)) (de_cst (pe_glob (v := .int 64) (by rfl) g64 ⟨_, rfl⟩) fun _ => .int _) (nomark _)))))
        (dss_one (ds_raise xBadMake (takes_of rfl rfl rfl rfl) rfl (hr.mono (by decide)) (by rfl) (lxt_fn hl) (da_cons de_str (da_cons de_int da_nil))))
        dss_nil)
      (dss_one (ds_for (passes_of rfl) rfl (di_enum K (by rfl) T.n_enumerate (de_var (pv 1))) (dg_tup K (n := 2) rfl (dgs_cons (dg_name (i := 2) sc_cf.nd rfl (Or.inl rfl)) (dgs_cons (dg_name (i := 3) sc_cf.nd rfl (Or.inl rfl)) dgs_nil)))
        (dss_one (ds_if (dt_not (dt_truth K (de_call cis_couple (hr.mono (by decide)) (by rfl) (da_cons (de_var (pv 3)) (da_cons (de_op op_sub opd_I0 (de_var (pv 0)) de_int) da_nil)))))
          (dss_one (ds_raise xBadMake (takes_of rfl rfl rfl rfl) rfl (hr.mono (by decide)) (by rfl) (lxt_fn hl) (da_cons de_str (da_cons (de_var (pv 2)) da_nil))))
          dss_nil))))))
      , fun ds Q h => ?_⟩)
  · obtain ⟨_, _, rfl, _⟩ := h
    rfl
  · obtain ⟨a, r, rfl, pa, pr, h1, h2⟩ := h
    unfold cfO at h1 h2
    refine sq_go fun S hS => ?_
    walk_at "d"
    refine ⟨_, _, _, some 0, some 8, rfl, rfl, rfl, pa, ?_⟩
    cases e : wholeD a (some 0) (some 8) with
    | false =>
      rw [e] at h2
      walk_at "d"
      exact ⟨by decide, h2 "facts" 0 rfl⟩
    | true =>
      obtain ⟨n, rfl, n0, n8⟩ := whole_nat (by decide) e
      rw [e, if_pos rfl] at h1
      rw [e] at h2
      have h2 : ∀ what k, cfR n r = some (what, k) → ex bm (bmA what k) := h2
      have h1 : cfR n r = none → Q (.dat .non) := h1
      walk_at "d"
      refine hS _ ?_
      clear hS S
      unfold cfR at h1 h2
      refine sq_go fun S hS => ?_
      walk_at "d"
      refine ⟨r, rfl, pr.p, ?_⟩
      cases hs : seqOfD r with
      | none =>
        rw [hs] at h2
        have lt : isLT r = false := by
          have := pr.p
          cases r <;> first | rfl | cases hs | cases this
        rw [lt]
        walk_at "d"
        exact ⟨by decide, h2 "rules" 0 rfl⟩
      | some xs =>
        rw [hs] at h1 h2
        have lt : isLT r = true := by cases r <;> first | rfl | cases hs
        rw [lt]
        walk_at "d"
        refine ite_d (fun z => ?_) fun z => hS _ ?_
        · have z : 64 < xs.length := by simp at z; omega
          exact ⟨by decide, h2 "rules" 0 (if_pos z)⟩
        · have z : ¬ 64 < xs.length := by simp at z; omega
          simp only [if_neg z] at h1 h2
          clear hS S
          walk_at "d"
          refine enum_go hs ?_
          rw [enD_eq]
          refine dFor_ind (fun es ρ => ∃ (k : Nat) (rs : List D) (a b : Option OV), es = enF k rs ∧ (∀ x ∈ rs, PlD x) ∧ badAt n 0 xs = badAt n k rs ∧ ρ = [some (OV.dat (.int (n : Int))), some (OV.dat r), a, b]) ?_ ?_ _ _ ⟨0, xs, _, _, rfl, pr.a xs hs, rfl, rfl⟩
          · rintro ρ ⟨k, rs, a, b, e1, e2, e3, rfl⟩
            cases rs with
            | nil => exact h1 (by rw [e3]; rfl)
            | cons x rs => cases e1
          · rintro d es C ρ ⟨k, rs, a, b, e1, e2, e3, rfl⟩ hC
            cases rs with
            | nil => cases e1
            | cons x rs =>
              cases e1
              walk_at "d"
              refine ⟨n, x, rfl, e2 x (by simp), ?_⟩
              rw [show badAt n k (x :: rs) = if cplB n x = true then badAt n (k + 1) rs else some k from rfl] at e3
              cases ec : cplB n x with
              | true =>
                rw [ec, if_pos rfl] at e3
                walk_at "d"
                exact hC _ ⟨k + 1, rs, _, _, rfl, fun d hd => e2 d (by simp [hd]), e3, rfl⟩
              | false =>
                rw [ec, if_neg (by simp)] at e3
                walk_at "d"
                exact ⟨by decide, h2 "rule" k (by rw [e3]; rfl)⟩
theorem cpl_cp {n : Nat} {d : D} (h : cplB n d = true) : CpD n d := by
  unfold cplB at h
  split at h
  · rename_i a b e
    rw [Bool.and_eq_true] at h
    obtain ⟨i, rfl, i0, i1⟩ := whole_nat (by decide) h.1
    obtain ⟨j, rfl, j0, j1⟩ := whole_nat (by decide) h.2
    refine ⟨i, j, ?_, by omega, by omega⟩
    unfold dcD
    rw [e]
  · cases h
theorem bad_none {n : Nat} : ∀ {xs : List D} {k : Nat}, badAt n k xs = none → ∀ x ∈ xs, cplB n x = true
  | [], _, _, _, h => by cases h
  | y :: xs, k, e, x, h => by
    unfold badAt at e
    split at e
    · rename_i c
      rcases List.mem_cons.mp h with rfl | h
      · exact c
      · exact bad_none e x h
    · cases e
theorem cp_seq {n : Nat} {d : D} (h : CpD n d) : seqOfD d = some [nD (prD d).1, nD (prD d).2] ∧ (prD d).1 < n ∧ (prD d).2 < n := by
  obtain ⟨a, b, e, ha, hb⟩ := h
  have e3 : prD d = (a, b) := by unfold prD; rw [e]; simp
  rw [e3, dcD_seq e]
  exact ⟨rfl, ha, hb⟩
def wKr : DW := fun ds Q _ => ∃ (n : Nat) (s : List Nat) (r : D) (xs : List D), ds = [stD s, r] ∧ seqOfD r = some xs ∧ xs.length ≤ 64 ∧ (∀ x ∈ xs, CpD n x) ∧ Q (.dat (.bl (keepR (xs.map prD) s)))
theorem ok_kr {f : Addr} {fd : FuncData} (F : Fun K "_keeps_rules" "_keeps_rules" s_kr f fd) (T : Bl mg) (n_all : mg "all" = none) : FnOk P w K mg base CX0 1 f fd ["kept", "rules"] (spD K wKr) := by
  refine okD F sc_kr (fun ds Q ex h => ?_) (fun cdv A outer s H E hr md F0 a0 => ⟨_, _,
      (dss_one (ds_ret (de_callB (kall K rfl) cad_all (by rfl) n_all (by decide +kernel) (da_cons (de_lc (own := [("a", 2), ("b", 3)]) rfl sc_kr.nd (di_seq K (de_var (pv 1))) (blkOk_by (own := [("a", 2), ("b", 3)]) (by show blkC ["kept", "rules", "a", "b"] (defScope s_kr) _ _ = true; decide +kernel)) (fun _ _ _ _ _ _ _ _ => (dg_tup K (n := 2) rfl (dgs_cons (dg_name (i := 2) sc_kr.nd rfl (Or.inl rfl)) (dgs_cons (dg_name (i := 3) sc_kr.nd rfl (Or.inl rfl)) dgs_nil)))) (fun _ _ _ _ _ _ _ _ => dps_nil) (fun _ _ _ _ _ _ _ _ => (de_or (de_cmp (knotin_seq K) opd_in (de_var (pv 2)) (de_var (pv 0)) (by rfl)) (de_one (de_cmp (kin_seq K) opd_in (de_var (pv 3)) (de_var (pv 0)) (by rfl))))) (by decide) s) da_nil))))
      , fun ds Q ex h => ?_⟩)
  · obtain ⟨_, _, _, _, rfl, _⟩ := h
    rfl
  · obtain ⟨n, s, r, xs, rfl, hs, lx, cp, q⟩ := h
    walk_at "d"
    rw [hs]
    have e0 : xs = xs.map id := (List.map_id xs).symm
    rw [e0]
    refine dLc_gA id (fun _ => true) (fun x => .bl (!decide ((prD x).1 ∈ s) || decide ((prD x).2 ∈ s))) xs _ (by simp; omega) (fun _ _ _ => rfl) (fun x hx U C0 g1 _ => ?_) ?_
    · obtain ⟨e, l1, l2⟩ := cp_seq (cp x hx)
      rw [show id x = x from rfl]
      unfold dgTup
      rw [e]
      refine ⟨rfl, ?_⟩
      unfold nD stD
      walk_at "d"
      refine ⟨rfl, flatA_ns s, ?_⟩
      rw [in_ns]
      by_cases h1 : (prD x).1 ∈ s
      · refine ite_f (by simp [h1]) ⟨rfl, flatA_ns s, ?_⟩
        rw [in_ns]
        exact g1 rfl _ _ rfl (by simp [h1, vl])
      · exact ite_t (by simp [h1]) (g1 rfl _ _ rfl (by simp [h1, vl]))
    · rw [flt_true]
      refine ⟨xs.map fun x => !decide ((prD x).1 ∈ s) || decide ((prD x).2 ∈ s), by rw [List.map_map]; rfl, ?_⟩
      rw [show (if true = true then (xs.map fun x => !decide ((prD x).1 ∈ s) || decide ((prD x).2 ∈ s)).all id else (xs.map fun x => !decide ((prD x).1 ∈ s) || decide ((prD x).2 ∈ s)).any id) = keepR (xs.map prD) s by
        unfold keepR
        rw [if_pos rfl, List.all_map, List.all_map]
        rfl]
      exact q
end
end Z

set_option Elab.async false
set_option linter.all false
set_option maxRecDepth 100000
namespace Z
open PySem L2
variable [TabsP]
open LamX
local macro_rules | `(tactic| walk_at "d") => `(tactic| simp only [dSq, dIf, dOr, dAnd, dNot, dTT, dTB, dUn, dBin, dVar, dC, dRet, dNext, dOrV, dAndV, dNotT, dIfE, isiD, OV.isOwn, startD, List.map_cons, List.map_nil, List.cons_append, List.nil_append, List.append_nil, List.length_cons, List.length_nil, List.replicate, Nat.reduceAdd, Nat.reduceSub, Nat.sub_self, Nat.add_sub_cancel,
  List.getElem?_cons_zero, List.getElem?_cons_succ, bOk, iv_d, iv_n, iv_v, nr_d, nr_n, List.any_cons, List.any_nil, Bool.or_false, Bool.or_true, Bool.false_eq_true, Bool.not_true, Bool.not_false, false_implies, true_and, and_true, if_true, if_false, ite_true, ite_false, forall_const, reduceIte, reduceCtorEq,
  d0_1, dI_1, ad_i, ad_t, ad_l, ng_1, dCa, dCall0, dCons, dNil, dTup, dLst, dEq, dSeq, dRange, dEnum, dRg1, dRg2, dListRg, dTupRg, dSl, dONone, dOSome, dCall, mv_d, mv_n, mv_v, nn_n, nn_b, nn_i, nn_s, nn_l, nn_t, nn_x, nn_d, dSetF, dSetO, dDrop, dFor, dgName, dgTup, dgCons, dgNil, dRetN, dYes, it_1, pm_1, nmR, dXf, dIsE, sq_l, sq_t, sq_x, tr_n, tr_b, tr_i, tr_l, tr_t, tr_x, tr_d, vl_d, vl_n, vl_v, fr_d, fr_o, fr_k, sl_l, sl_t, sl_x, le_1, li_1, tu_1, tu_l, tu_t, tu_x, tx_1, tx_l, tx_t, tx_x, rr_d, rr_n, rr_v, in_1, ix_1, dt_1, isB_1, dCallT, dIdx, dRaise, dAsg, dDnew, List.set_cons_zero, List.set_cons_succ, noOwnAt, List.all_cons, List.all_nil, wipeE, lent, hasOwn, Option.map_some, Option.map_none, dLc, lt_n, pl_n, tyB_n, tyI_n, tyS_n, tyL_n, tyT_n, lt_b, pl_b, tyB_b, tyI_b, tyS_b, tyL_b, tyT_b, lt_i, pl_i, tyB_i, tyI_i, tyS_i, tyL_i, tyT_i, lt_s, pl_s, tyB_s, tyI_s, tyS_s, tyL_s, tyT_s, lt_l, pl_l, tyB_l, tyI_l, tyS_l, tyL_l, tyT_l, lt_t, pl_t, tyB_t, tyI_t, tyS_t, tyL_t, tyT_t, lt_x, pl_x, tyB_x, tyI_x, tyS_x, tyL_x, tyT_x, lt_d, pl_d, tyB_d, tyI_d, tyS_d, tyL_d, tyT_d, noL, noLA, Bool.and_true, Bool.true_and])
local macro_rules | `(tactic| walk_at "e") => `(tactic| first | exact ⟨_, rfl, rfl⟩ | rfl)
/-- a loop over values, by the place -/
theorem dFor_at {g : DGT} {tb : DST} {E : DEnds} {ds : List D} (I : Nat → En → Prop) (h0 : ∀ ρ, I ds.length ρ → E.nx ρ)
    (h1 : ∀ (i : Nat) (hi : i < ds.length) (C : En → Prop) ρ, I i ρ → (∀ ρ', I (i + 1) ρ' → C ρ') → g ds[i] ρ fun ρ1 => tb { E with nx := C, ct := C, bk := E.nx } ρ1) {ρ : En} (h : I 0 ρ) : dForL g tb E ds ρ := by
  refine dFor_ind (fun es ρ => ∃ i : Nat, es = ds.drop i ∧ i ≤ ds.length ∧ I i ρ) ?_ ?_ _ _ ⟨0, rfl, Nat.zero_le _, h⟩
  · rintro ρ ⟨i, e, hi, q⟩
    have : (ds.drop i).length = 0 := by rw [← e]; rfl
    rw [List.length_drop] at this
    obtain rfl : i = ds.length := by omega
    exact h0 ρ q
  · rintro d es C ρ ⟨i, e, hi, q⟩ hC
    have hlt : i < ds.length := by
      have := congrArg List.length e
      rw [List.length_drop, List.length_cons] at this
      omega
    rw [List.drop_eq_getElem_cons hlt] at e
    cases e
    exact h1 i hlt C ρ q fun ρ' h' => hC ρ' ⟨i + 1, rfl, hlt, h'⟩
abbrev s_fo : Stmt := top 27
section
variable {P : Program} {w : World} {K : PySem.W.Frag} {mg : Str → Option Value} {base : Heap}
theorem sc_fo : FnScope ["facts", "rules", "sets", "fact", "pairs", "low", "high", "kept"] ["facts", "rules"] (defScope s_fo) := ⟨rfl, rfl, rfl, by decide +kernel, rfl, by decide +kernel, by decide +kernel⟩
def factY (F : Nat) (xs : List D) : List (List Nat) := sortN (keptL F (xs.map prD))
/-- pairs of rows, the first so many rows done -/
structure PrsAt (M : Nat → Nat → Bool) (n : Nat) (l : List (Nat × Nat)) (D : Nat → Nat → Prop) : Prop where
  ok : ∀ z ∈ l, z.1 < n ∧ z.2 < n ∧ sB M z.1 z.2 = true
  all : ∀ x y, x < n → y < n → D x y → sB M x y = true → (x, y) ∈ l
def wFo (C bm : Addr) : DW := fun ds Q ex => ∃ a r, ds = [a, r] ∧ plainD a = true ∧ PlR r ∧ (∀ what k, cfO a r = some (what, k) → ex bm (bmA what k)) ∧
  ∀ (F : Nat) (xs : List D), a = .int (F : Int) → F ≤ 8 → seqOfD r = some xs → xs.length ≤ 64 → (∀ x ∈ xs, CpD F x) → (24 < (factY F xs).length → ex bm (bmA "many" 0)) ∧
    ((factY F xs).length ≤ 24 → Q (.dat (.tup [ordV C (factY F xs).length (sB (inB (factY F xs))), .tup ((factY F xs).map stD)])))
theorem cf_none {a r : D} (h : cfO a r = none) (pr : PlR r) : ∃ (F : Nat) (xs : List D), a = .int (F : Int) ∧ F ≤ 8 ∧ seqOfD r = some xs ∧ xs.length ≤ 64 ∧ ∀ x ∈ xs, CpD F x := by
  unfold cfO at h
  split at h
  · rename_i e
    obtain ⟨n, rfl, n0, n8⟩ := whole_nat (by decide) e
    have h : cfR n r = none := h
    unfold cfR at h
    split at h
    · cases h
    · rename_i xs hs
      split at h
      · cases h
      · rename_i c
        rw [Option.map_eq_none_iff] at h
        exact ⟨n, xs, rfl, by omega, hs, by omega, fun x hx => cpl_cp (bad_none h x hx)⟩
  · cases h
theorem ok_fo {C bm f c PT : Addr} {fd : FuncData} (F : Fun K "facts_order" "facts_order" s_fo f fd) (hc : fd.code = .ref c) (TB : TabB base mg c PT) (hmT : (PT, ("facts_order.<locals>.<lambda>" : Str)) ∈ TabsP.T) (hu : ∀ p ∈ TabsP.T, p.1 = PT → p.2 = ("facts_order.<locals>.<lambda>" : Str))
    (T : Bl mg) (n_sorted : mg "sorted" = none) (n_all : mg "all" = none) (oOrder : MkI P w K mg base (L2.CX P w) "Order" C 4 (spI K C ordNs wOI)) (c_check_facts : Cal P w K mg base (L2.CX P w) "_check_facts" 3 (spD K (wCf bm))) (c_check_many : Cal P w K mg base (L2.CX P w) "_check_many" 3 (spD K (wMany bm)))
    (c_keeps_rules : Cal P w K mg base CX0 "_keeps_rules" 1 (spD K wKr)) :
    FnOk P w K mg base (L2.CX P w) 6 f fd ["facts", "rules"] (spD K (wFo C bm)) := by
  refine okDCX F hc sc_fo (fun ds Q ex h => ?_) (fun A outer s H E hr md F0 a0 ex hl => ⟨_, _,
      (dss_cons (ds_expr (de_callT c_check_facts.v (hr.mono (by decide)) (by rfl) (takes_of rfl rfl rfl rfl) (lxt_fn hl) (fun _ => .nil) (da_cons (de_var (pv 0)) (da_cons (de_var (pv 1)) da_nil))))
      (dss_cons (ds_setF (i := 2) sc_fo.nd rfl (Or.inr rfl) (de_lst (da_cons (de_tup da_nil) da_nil)))
      (dss_cons (ds_for (passes_of rfl) rfl (di_range1 (by rfl) T.n_range (de_var (pv 0))) (dg_name (i := 3) sc_fo.nd rfl (Or.inr rfl))
        (dss_one (ds_setF (i := 2) sc_fo.nd rfl (Or.inr rfl) (de_op (op_addA K) opd_add (de_var (pv 2)) (de_lc (own := [("kept", 7)]) rfl sc_fo.nd (di_seq K (de_var (pv 2))) (blkOk_by (own := [("kept", 7)]) (by show blkC ["facts", "rules", "sets", "fact", "pairs", "low", "high", "kept"] (defScope s_fo) _ _ = true; decide +kernel)) (fun _ _ _ _ _ _ _ _ => (dg_name (i := 7) sc_fo.nd rfl (Or.inl rfl))) (fun _ _ _ _ _ _ _ _ => dps_nil) (fun _ _ _ _ _ _ _ _ => (de_op (op_addA K) opd_add (de_var (pv 7)) (de_tup (da_cons (de_var (pv 3)) da_nil)))) (by decide) s)))))
      (dss_cons (ds_setF (i := 2) sc_fo.nd rfl (Or.inr rfl) (de_sortL (k := 0) (by rfl) n_sorted (de_lc (own := [("kept", 7)]) rfl sc_fo.nd (di_seq K (de_var (pv 2))) (blkOk_by (own := [("kept", 7)]) (by show blkC ["facts", "rules", "sets", "fact", "pairs", "low", "high", "kept"] (defScope s_fo) _ _ = true; decide +kernel)) (fun _ _ _ _ _ _ _ _ => (dg_name (i := 7) sc_fo.nd rfl (Or.inl rfl))) (fun _ _ _ _ _ _ _ _ => (dps_one (dt_truth K (de_call c_keeps_rules (hr.mono (by decide)) (by rfl) (da_cons (de_var (pv 7)) (da_cons (de_var (pv 1)) da_nil)))))) (fun _ _ _ _ _ _ _ _ => (de_var (pv 7))) (by decide) s) (lam1_by (sc := defScope s_fo) (by decide +kernel)) (hr.mono (by decide)) TB rfl hmT hu rfl (fun _ _ _ _ _ _ => rfl) (fun A outer s H f c' hr F0 H0 a0 => (de_tup (da_cons (de_callB (klen K) cad_len (by rfl) T.n_len PySem.boot_len (da_cons (de_var (pv 8)) da_nil)) (da_cons (de_var (pv 8)) da_nil))))))
      (dss_cons (ds_expr (de_callT c_check_many.v (hr.mono (by decide)) (by rfl) (takes_of rfl rfl rfl rfl) (lxt_fn hl) (fun _ => .nil) (da_cons (de_callB (klen K) cad_len (by rfl) T.n_len PySem.boot_len (da_cons (de_var (pv 2)) da_nil)) da_nil)))
      (dss_cons (ds_setO (i := 4) sc_fo.nd rfl (Or.inl rfl) (de_lst da_nil))
      (dss_cons (ds_for (passes_of rfl) rfl (di_range1 (by rfl) T.n_range (de_callB (klen K) cad_len (by rfl) T.n_len PySem.boot_len (da_cons (de_var (pv 2)) da_nil))) (dg_name (i := 5) sc_fo.nd rfl (Or.inl rfl))
        (dss_one (ds_for (passes_of rfl) rfl (di_range2 (by rfl) T.n_range (de_op (op_addA K) opd_add (de_var (pv 5)) de_int) (de_callB (klen K) cad_len (by rfl) T.n_len PySem.boot_len (da_cons (de_var (pv 2)) da_nil))) (dg_name (i := 6) sc_fo.nd rfl (Or.inr rfl))
          (dss_one (ds_if (dt_truth K (de_callB (kall K rfl) cad_all (by rfl) n_all (by decide +kernel) (da_cons (de_lc (own := [("fact", 3)]) rfl sc_fo.nd (di_seq K (de_ix (kix_seq K) opd_ix (de_var (pv 2)) (de_var (pv 5)) (fun _ _ => rfl))) (blkOk_by (own := [("fact", 3)]) (by show blkC ["facts", "rules", "sets", "fact", "pairs", "low", "high", "kept"] (defScope s_fo) _ _ = true; decide +kernel)) (fun _ _ _ _ _ _ _ _ => (dg_name (i := 3) sc_fo.nd rfl (Or.inl rfl))) (fun _ _ _ _ _ _ _ _ => dps_nil) (fun _ _ _ _ _ _ _ _ => (de_cmp (kin_seq K) opd_in (de_var (pv 3)) (de_ix (kix_seq K) opd_ix (de_var (pv 2)) (de_var (pv 6)) (fun _ _ => rfl)) (by rfl))) (by decide) s) da_nil)))
            (dss_one (ds_expr (de_append (pv 4) (de_tup (da_cons (de_var (pv 5)) (da_cons (de_var (pv 6)) da_nil))))))
            dss_nil)))))
      (dss_one (ds_ret (de_tup (da_cons (de_make oOrder (hr.mono (by decide)) (by rfl) (takes_of rfl rfl rfl rfl) (lxt_fn hl) (da_cons (de_callB (klen K) cad_len (by rfl) T.n_len PySem.boot_len (da_cons (de_var (pv 2)) da_nil)) (da_cons (de_give (pv 4)) da_nil))) (da_cons (de_callTy (ktuple_of K) cad_tuple (by rfl) T.n_tuple (by decide +kernel) (da_cons (de_var (pv 2)) da_nil)) da_nil))))))))))))
      , fun ds Q h => ?_⟩)
  · obtain ⟨_, _, rfl, _⟩ := h
    rfl
  · obtain ⟨a, r, rfl, pa, pr, h1, h2⟩ := h
    refine sq_go fun S hS => ?_
    walk_at "d"
    refine ⟨a, r, rfl, pa, pr, fun z => hS _ ?_, h1⟩
    clear hS S
    obtain ⟨n, xs, rfl, n8, hs, lx, cp⟩ := cf_none z pr
    have h2 := h2 n xs rfl n8 hs lx cp
    refine sq_go fun S hS => ?_
    walk_at "d"
    refine ⟨by decide, by decide, hS _ ?_⟩
    clear hS S
    refine sq_go fun S hS => ?_
    walk_at "d"
    rw [rgD_n]
    refine ⟨r62_0, r62 (by omega), dFor_rg (fun i ρ => i ≤ n ∧ ∃ o : Option D, ρ = [some (OV.dat (.int (n : Int))), some (OV.dat r), some (OV.dat (.lst ((subsL i).map stD))), o.map OV.dat, none, none, none, none]) ?_ ?_ ⟨Nat.zero_le _, none, rfl⟩⟩
    rotate_left
    · rintro i hi C ρ ⟨_, o, rfl⟩ hC
      walk_at "d"
      have l1 := subs_len i
      have l2 := pow8 (F := i) (by omega)
      refine dLc_gA stD (fun _ => true) (fun s => stD (s ++ [i])) (subsL i) [] (by rw [l1, List.length_nil]; omega) (fun _ _ e => by cases e) (fun s hs T C0 g1 _ => ?_) ?_
      · have := subs_le hs
        unfold stD
        walk_at "d"
        refine ⟨by decide, by rw [nsD_len]; unfold sizeLine; omega, g1 rfl _ _ rfl ?_⟩
        show D.tup (nsD s ++ [D.int (i : Int)]) = .tup (nsD (s ++ [i]))
        rw [nsD_app]
        rfl
      · rw [flt_true, List.nil_append]
        refine ⟨by rw [List.length_map, List.length_map, l1]; unfold sizeLine; omega, hC _ ⟨hi, some (.int (i : Int)), ?_⟩⟩
        show _ = [_, _, some (OV.dat (.lst ((subsL i ++ (subsL i).map (· ++ [i])).map stD))), _, _, _, _, _]
        rw [List.map_append, List.map_map]
        rfl
    · rintro ρ ⟨_, o, rfl⟩
      refine hS _ ?_
      clear hS S
      refine sq_go fun S hS => ?_
      walk_at "d"
      unfold dSortL
      walk_at "d"
      have l1 := subs_len n
      have l2 := pow8 n8
      refine dLc_gA stD (keepR (xs.map prD)) stD (subsL n) [] (by rw [l1, List.length_nil]; omega) (fun s _ _ => noLA_ns s) (fun s hs' T C0 g1 g2 => ?_) ?_
      · walk_at "d"
        refine ⟨n, s, r, xs, rfl, hs, lx, cp, ?_⟩
        cases e : keepR (xs.map prD) s with
        | true =>
          walk_at "d"
          exact g1 e _ _ rfl rfl
        | false =>
          walk_at "d"
          exact g2 e
      · rw [List.nil_append]
        refine ⟨by cases o <;> rfl, _, (keptL n (xs.map prD)).map lkD, rfl, ⟨by rw [List.length_map, List.length_map]; rfl, fun i d k ed ek => ?_⟩, keys_ok _, ?_⟩
        · rw [List.getElem?_map] at ed ek
          obtain ⟨s, e1, rfl⟩ := Option.map_eq_some_iff.mp ed
          obtain ⟨s', e2, rfl⟩ := Option.map_eq_some_iff.mp ek
          have e1 : (keptL n (xs.map prD))[i]? = some s := e1
          rw [e1] at e2
          cases e2
          walk_at "d"
          show 2 ≤ sizeLine ∧ R.dat (.tup [.int ((nsD s).length : Int), stD s]) = R.dat (lkD s)
          rw [nsD_len]
          exact ⟨by decide, rfl⟩
        · rw [show sortBy (((subsL n).filter (keepR (xs.map prD))).map stD) (toPyA ((keptL n (xs.map prD)).map lkD)) = (factY n xs).map stD from sortBy_st _]
          obtain ⟨rk, rk2⟩ : RowsOk (factY n xs) ∧ ∀ s ∈ factY n xs, s.Pairwise (· < ·) ∧ s.length ≤ n := rows_sets n (xs.map prD)
          generalize factY n xs = Y at h2 rk rk2 ⊢
          refine hS _ ?_
          clear hS S
          refine sq_go fun S hS => ?_
          walk_at "d"
          refine ⟨Y.length, by rw [List.length_map], fun h24 => hS _ ?_, fun h24 => h2.1 h24⟩
          clear hS S
          have h2 := h2.2 h24
          have p := po_sets rk (fun s hs => (rk2 s hs).1) h24
          refine sq_go fun S hS => ?_
          walk_at "d"
          refine ⟨by decide, hS _ ?_⟩
          clear hS S
          refine sq_go fun S hS => ?_
          walk_at "d"
          rw [List.length_map, rgD_n]
          refine ⟨r62_0, r62 (by omega), dFor_rg (fun low ρ => low ≤ Y.length ∧ ∃ (l : List (Nat × Nat)) (a b : Option D), ρ = [some (OV.dat (.int (n : Int))), some (OV.dat r), some (OV.dat (.lst (Y.map stD))), o.map OV.dat, some (OV.own (l.map cpD)), a.map OV.dat, b.map OV.dat, none] ∧ l.length ≤ low * 24 ∧ PrsAt (inB Y) Y.length l fun x _ => x < low) ?_ ?_ ⟨Nat.zero_le _, [], none, none, rfl, by simp, ⟨(fun z hz => by cases hz), fun x y _ _ h => absurd h (Nat.not_lt_zero _)⟩⟩⟩
          · rintro ρ ⟨_, l, a, b, rfl, ll, pr⟩
            refine hS _ ?_
            clear hS S
            unfold dMake
            walk_at "d"
            unfold dGive
            walk_at "d"
            rw [List.length_map]
            refine p.oiL (.inl rfl) (by omega) pr.ok (fun x y hx hy c => pr.all x y hx hy hx (cvB_iff.mp c).1) ⟨by decide, h2⟩
          · rintro low hlow C ρ ⟨_, l, a, b, rfl, ll, pr⟩ hC
            walk_at "d"
            rw [List.length_map, show rgD ((low : Int) + 1) (Y.length : Int) = nsD ((List.range (Y.length - (low + 1))).map (low + 1 + ·)) from rgD_an (low + 1) Y.length]
            refine ⟨r62 (n := low + 1) (by omega), r62 (by omega), dFor_at (fun j ρ => j ≤ Y.length - (low + 1) ∧ ∃ (l : List (Nat × Nat)) (b : Option D), ρ = [some (OV.dat (.int (n : Int))), some (OV.dat r), some (OV.dat (.lst (Y.map stD))), o.map OV.dat, some (OV.own (l.map cpD)), some (OV.dat (.int (low : Int))), b.map OV.dat, none] ∧ l.length ≤ low * 24 + j ∧ PrsAt (inB Y) Y.length l fun x y => x < low ∨ (x = low ∧ y < low + 1 + j)) ?_ ?_ ⟨Nat.zero_le _, l, b, rfl, ll, ⟨pr.ok, fun x y hx hy h s => ?_⟩⟩⟩
            · rintro ρ ⟨_, l, b, rfl, ll, pr⟩
              rw [nsD_len, List.length_map, List.length_range] at ll pr
              refine hC _ ⟨hlow, l, some (.int (low : Int)), b, rfl, by omega, pr.ok, fun x y hx hy h s => pr.all x y hx hy ?_ s⟩
              omega
            · rintro j hj C ρ ⟨_, l, b, rfl, ll, pr⟩ hC
              rw [nsD_len, List.length_map, List.length_range] at hj
              have ej : (nsD ((List.range (Y.length - (low + 1))).map (low + 1 + ·)))[j]'(by rw [nsD_len, List.length_map, List.length_range]; exact hj) = .int ((low + 1 + j : Nat) : Int) := by
                simp [nsD, nD]
              rw [ej]
              have hh : low + 1 + j < Y.length := by omega
              generalize eh : low + 1 + j = high at hh ej ⊢
              have atY : ∀ i, i < Y.length → atI (Y.map stD) (i : Int) = some (stD (Y.getD i [])) := fun i hi => L2.atI_nat (by rw [List.getElem?_map, List.getElem?_eq_getElem hi, getD_eq hi]; rfl)
              have lY : (Y.getD low []).length ≤ n := by
                rw [getD_eq hlow]
                exact (rk2 _ (List.getElem_mem hlow)).2
              walk_at "d"
              refine ⟨_, atY low hlow, ?_⟩
              unfold stD
              walk_at "d"
              refine ⟨by cases o <;> rfl, dLc_ns (fun _ => true) (fun f => .bl (decide (f ∈ Y.getD high []))) (by omega) (fun _ _ _ => rfl) (fun f hf U C0 g1 _ => ?_) ?_⟩
              · walk_at "d"
                refine ⟨_, atY high hh, ?_⟩
                unfold stD
                walk_at "d"
                refine ⟨rfl, flatA_ns _, ?_⟩
                rw [in_ns]
                exact g1 rfl _ _ rfl rfl
              · rw [flt_true]
                refine ⟨(Y.getD low []).map fun f => decide (f ∈ Y.getD high []), by rw [List.map_map]; rfl, ?_⟩
                rw [show (if true = true then ((Y.getD low []).map fun f => decide (f ∈ Y.getD high [])).all id else ((Y.getD low []).map fun f => decide (f ∈ Y.getD high [])).any id) = inB Y low high by
                  rw [if_pos rfl, List.all_map]
                  rfl]
                cases e : inB Y low high with
                | true =>
                  unfold dApp isOwnL ownAt
                  walk_at "d"
                  refine ⟨by decide, by rw [List.length_map]; unfold sizeLine; omega, hC _ ⟨by omega, l ++ [(low, high)], some (.int (high : Int)), ?_, by rw [List.length_append, List.length_singleton]; omega, fun z hz => ?_, fun x y hx hy h s => ?_⟩⟩
                  · rw [List.map_append]
                    rfl
                  · rcases List.mem_append.mp hz with hz | hz
                    · exact pr.ok z hz
                    · cases List.mem_singleton.mp hz
                      exact ⟨hlow, hh, sB_iff.mpr ⟨by show high ≠ low; omega, e⟩⟩
                  · by_cases hq : x = low ∧ y = high
                    · obtain ⟨rfl, rfl⟩ := hq
                      simp
                    · exact List.mem_append_left _ (pr.all x y hx hy (by omega) s)
                | false =>
                  walk_at "d"
                  refine hC _ ⟨by omega, l, some (.int (high : Int)), rfl, by omega, pr.ok, fun x y hx hy h s => ?_⟩
                  by_cases hq : x = low ∧ y = high
                  · obtain ⟨rfl, rfl⟩ := hq
                    rw [(sB_iff.mp s).2] at e
                    cases e
                  · exact pr.all x y hx hy (by omega) s
            · rcases h with h | ⟨rfl, h⟩
              · exact pr.all x y hx hy h s
              · obtain ⟨ne, q⟩ := sB_iff.mp s
                have : x < y := p.up x y hx hy (Ne.symm ne) q
                omega
end
end Z

set_option Elab.async false
set_option linter.all false
set_option maxRecDepth 100000
namespace Z
open PySem L2
variable [TabsP]
local macro_rules | `(tactic| walk_at "d") => `(tactic| simp only [dSq, dIf, dOr, dAnd, dNot, dTT, dTB, dUn, dBin, dVar, dC, dRet, dNext, dOrV, dAndV, dNotT, dIfE, isiD, OV.isOwn, startD, List.map_cons, List.map_nil, List.cons_append, List.nil_append, List.append_nil, List.length_cons, List.length_nil, List.replicate, Nat.reduceAdd, Nat.reduceSub, Nat.sub_self, Nat.add_sub_cancel,
  List.getElem?_cons_zero, List.getElem?_cons_succ, bOk, iv_d, iv_n, iv_v, nr_d, nr_n, List.any_cons, List.any_nil, Bool.or_false, Bool.or_true, Bool.false_eq_true, Bool.not_true, Bool.not_false, false_implies, true_and, and_true, if_true, if_false, ite_true, ite_false, forall_const, reduceIte, reduceCtorEq,
  d0_1, dI_1, ad_i, ad_t, ad_l, ng_1, dCa, dCall0, dFld, dLc2, dCons, dNil, dTup, dLst, dEq, dSeq, dRange, dEnum, dRg1, dRg2, dListRg, dTupRg, dSl, dONone, dOSome, dCall, mv_d, mv_n, mv_v, nn_n, nn_b, nn_i, nn_s, nn_l, nn_t, nn_x, nn_d, dSetF, dSetO, dDrop, dFor, dgName, dgTup, dgCons, dgNil, dRetN, dYes, it_1, pm_1, nmR, dXf, dIsE, sq_l, sq_t, sq_x, tr_n, tr_b, tr_i, tr_l, tr_t, tr_x, tr_d, vl_d, vl_n, vl_v, fr_d, fr_o, fr_k, sl_l, sl_t, sl_x, le_1, li_1, tu_1, tu_l, tu_t, tu_x, tx_1, tx_l, tx_t, tx_x, rr_d, rr_n, rr_v, in_1, ix_1, dt_1, isB_1, dCallT, dIdx, dRaise, dAsg, dDnew, List.set_cons_zero, List.set_cons_succ, noOwnAt, List.all_cons, List.all_nil, wipeE, lent, hasOwn, Option.map_some, Option.map_none, dLc, lt_n, pl_n, tyB_n, tyI_n, tyS_n, tyL_n, tyT_n, lt_b, pl_b, tyB_b, tyI_b, tyS_b, tyL_b, tyT_b, lt_i, pl_i, tyB_i, tyI_i, tyS_i, tyL_i, tyT_i, lt_s, pl_s, tyB_s, tyI_s, tyS_s, tyL_s, tyT_s, lt_l, pl_l, tyB_l, tyI_l, tyS_l, tyL_l, tyT_l, lt_t, pl_t, tyB_t, tyI_t, tyS_t, tyL_t, tyT_t, lt_x, pl_x, tyB_x, tyI_x, tyS_x, tyL_x, tyT_x, lt_d, pl_d, tyB_d, tyI_d, tyS_d, tyL_d, tyT_d, noL, noLA, Bool.and_true, Bool.true_and])
local macro_rules | `(tactic| walk_at "e") => `(tactic| first | exact ⟨_, rfl, rfl⟩ | rfl)
abbrev s_wo2 : Stmt := top 28
section
variable {P : Program} {w : World} {K : PySem.W.Frag} {mg : Str → Option Value} {base : Heap}
theorem sc_wo2 : FnScope ["letters", "depth", "words", "longest", "_", "pairs", "word", "letter", "at"] ["letters", "depth"] (defScope s_wo2) := ⟨rfl, rfl, rfl, by decide +kernel, rfl, by decide +kernel, by decide +kernel⟩
theorem eq_st (a b : List Nat) : eqD (stD a) (stD b) = decide (a = b) := by
  rw [eq_tupI (ns := a.map fun i : Nat => (i : Int)) (ms := b.map fun i : Nat => (i : Int)) (.inl (by rw [← nsD_I]; rfl)) (.inl (by rw [← nsD_I]; rfl))]
  refine bool_ext ?_
  rw [decide_eq_true_eq, decide_eq_true_eq]
  exact ⟨fun h => List.map_inj_right (fun x y e => Int.ofNat.inj e) |>.mp h, fun h => by rw [h]⟩
theorem shp_st (a : List Nat) : shp (stD a) = true := shp_tupI (ns := a.map fun i : Nat => (i : Int)) (.inl (by rw [← nsD_I]; rfl))
theorem shp_rows (Y : List (List Nat)) : shp (.lst (Y.map stD)) = true := by
  have h : pydA (Y.map stD) = true ∧ PyData.canLayAll0 (toPyA (Y.map stD)) = true ∧ PyData.depthAll (toPyA (Y.map stD)) ≤ 2 := by
    induction Y with
    | nil => exact ⟨rfl, rfl, by decide⟩
    | cons s Y ih =>
      have e : toPy (stD s) = .tuple ((s.map fun i : Nat => (i : Int)).map PyData.int) := by
        show PyData.tuple (toPyA (nsD s)) = _
        rw [nsD_I, toPy_ints]
      refine ⟨?_, ?_, ?_⟩
      · show (pydA (nsD s) && pydA (Y.map stD)) = true
        rw [ih.1, nsD_I, pyd_ints]
        rfl
      · show PyData.canLayAll0 (toPy (stD s) :: toPyA (Y.map stD)) = true
        rw [e, PyData.canLayAll0, ih.2.1, PyData.canLay0, canLay_ints]
        rfl
      · show PyData.depthAll (toPy (stD s) :: toPyA (Y.map stD)) ≤ 2
        rw [e, PyData.depthAll, PyData.depth, depth_ints]
        have := ih.2.2
        omega
  unfold shp SeqAt.shaped
  show (pydA (Y.map stD) && (PyData.canLay0 (.list (toPyA (Y.map stD))) && decide (PyData.depth (.list (toPyA (Y.map stD))) ≤ 64))) = true
  rw [h.1, PyData.canLay0, h.2.1, PyData.depth]
  have := h.2.2
  simp
  omega
theorem cut_last (w : List Nat) : cutD (nsD w) none (some (-1)) = nsD w.dropLast := by
  unfold cutD
  rw [HT.sIx_none, List.drop_zero, Nat.sub_zero]
  have e : HT.sIx (nsD w).length (nsD w).length (some (-1)) = w.length - 1 := by
    rw [nsD_len]
    unfold HT.sIx
    simp
    omega
  rw [e, List.dropLast_eq_take]
  unfold nsD
  rw [List.map_take]
theorem enF_rows (Y : List (List Nat)) : enF 0 (Y.map stD) = (List.range Y.length).map fun i => D.tup [nD i, stD (Y.getD i [])] := by
  refine List.ext_getElem? fun i => ?_
  rw [enF_get, List.getElem?_map, List.getElem?_map]
  by_cases h : i < Y.length
  · rw [List.getElem?_eq_getElem h, List.getElem?_range h, Option.map_some, Option.map_some, Option.map_some, Nat.zero_add, getD_eq h]
    rfl
  · rw [List.getElem?_eq_none (by omega), List.getElem?_eq_none (by rw [List.length_range]; omega)]
    rfl
theorem words_len_mono {L i d : Nat} (h : i ≤ d) : (wordsL L i).length ≤ (wordsL L d).length := by
  induction d with
  | zero =>
    obtain rfl : i = 0 := by omega
    exact Nat.le_refl _
  | succ d ih =>
    by_cases e : i = d + 1
    · subst e; exact Nat.le_refl _
    · have := ih (by omega)
      show _ ≤ (wordsL L d ++ levL L (d + 1)).length
      rw [List.length_append]
      omega
theorem lev_le {L i : Nat} : (levL L i).length ≤ (wordsL L i).length := by
  cases i with
  | zero => exact Nat.le_refl _
  | succ i =>
    show _ ≤ (wordsL L i ++ levL L (i + 1)).length
    rw [List.length_append]
    omega
theorem lev_len (L i : Nat) : (levL L (i + 1)).length = (levL L i).length * L := fm_len (k := L) (fun w => by simp) _
def wWd (C bm : Addr) : DW := fun ds Q ex => ∃ a b, ds = [a, b] ∧ plainD a = true ∧ plainD b = true ∧ (wholeD a (some 1) (some 23) = false → ex bm (bmA "letters" 0)) ∧
  ∀ L : Nat, a = .int (L : Int) → 1 ≤ L → L ≤ 23 → (wholeD b (some 0) (some 23) = false → ex bm (bmA "depth" 0)) ∧
    ∀ d : Nat, b = .int (d : Int) → d ≤ 23 → (24 < (wordsL L d).length → ex bm (bmA "many" 0)) ∧ ((wordsL L d).length ≤ 24 → Q (.dat (.tup [ordV C (wordsL L d).length (sB (preB (wordsL L d))), .tup ((wordsL L d).map stD)])))
theorem ok_wd {C bm f : Addr} {fd : FuncData} (F : Fun K "words_order" "words_order" s_wo2 f fd) (T : Bl mg) (g24 : ∃ t, mg "MOST_STATES" = some (.int 24 t)) (g23 : ∃ t, mg "MOST_LETTERS" = some (.int 23 t)) (xBadMake : ExK P w K mg base "BadMake" bm ["what", "at"])
    (oOrder : MkI P w K mg base (L2.CX P w) "Order" C 4 (spI K C ordNs wOI)) (cis_whole : Cal P w K mg base CX0 "is_whole" 1 (spD K wWhole)) (c_check_many : Cal P w K mg base (L2.CX P w) "_check_many" 3 (spD K (wMany bm))) :
    FnOk P w K mg base (L2.CX P w) 6 f fd ["letters", "depth"] (spD K (wWd C bm)) := by
  obtain ⟨t24, g24⟩ := g24
  obtain ⟨t23, g23⟩ := g23
  refine okDX F sc_wo2 (fun ds Q ex h => ?_) (fun cdv A outer s H E hr md F0 a0 ex hl => ⟨_, _,
      (dss_cons (ds_if (dt_not (dt_truth K (de_call cis_whole (hr.mono (by decide)) (by rfl) (da_cons (de_var (pv 0)) (da_cons de_int (da_cons (de_cst (pe_glob (v := .int 23) (by rfl) g23 ⟨_, rfl⟩) fun _ => .int _) da_nil))))))
        (dss_one (ds_raise xBadMake (takes_of rfl rfl rfl rfl) rfl (hr.mono (by decide)) (by rfl) (lxt_fn hl) (da_cons de_str (da_cons de_int da_nil))))
        dss_nil)
      (dss_cons (ds_if (dt_not (dt_truth K (de_call cis_whole (hr.mono (by decide)) (by rfl) (da_cons (de_var (pv 1)) (da_cons de_int (da_cons (de_op op_sub opd_I0 (de_cst (pe_glob (v := .int 24) (by rfl) g24 ⟨_, rfl⟩) fun _ => .int _) de_int) da_nil))))))
        (dss_one (ds_raise xBadMake (takes_of rfl rfl rfl rfl) rfl (hr.mono (by decide)) (by rfl) (lxt_fn hl) (da_cons de_str (da_cons de_int da_nil))))
        dss_nil)
      (dss_cons (ds_setF (i := 2) sc_wo2.nd rfl (Or.inr rfl) (de_lst (da_cons (de_tup da_nil) da_nil)))
      (dss_cons (ds_setF (i := 3) sc_wo2.nd rfl (Or.inl rfl) (de_lst (da_cons (de_tup da_nil) da_nil)))
      (dss_cons (ds_for (passes_of rfl) rfl (di_range1 (by rfl) T.n_range (de_var (pv 1))) (dg_name (i := 4) sc_wo2.nd rfl (Or.inl rfl))
        (dss_cons (ds_lc2F (i := 3) (own := [("word", 6), ("letter", 7)]) (vs1 := [7]) rfl sc_wo2.nd rfl rfl (sw_true rfl rfl rfl (by decide +kernel)) (di_seq K (de_var (pv 3))) (blkOk_by (own := [("word", 6), ("letter", 7)]) (by show blkC ["letters", "depth", "words", "longest", "_", "pairs", "word", "letter", "at"] (defScope s_wo2) _ _ = true; decide +kernel)) (by decide) (fun _ _ _ _ _ _ _ _ => (dg_name (i := 6) sc_wo2.nd rfl (Or.inl rfl))) (fun _ _ _ _ _ _ _ _ => dps_nil) (fun _ _ _ _ _ _ _ _ => (di_range1 (by rfl) T.n_range (de_var (pv 0)))) (fun _ _ _ _ _ _ _ _ => (dg_name (i := 7) sc_wo2.nd rfl (Or.inl rfl))) (fun _ _ _ _ _ _ _ _ => dps_nil) (fun _ _ _ _ _ _ _ _ => (de_op (op_addA K) opd_add (de_var (pv 6)) (de_tup (da_cons (de_var (pv 7)) da_nil)))) (by decide) (by decide) s)
        (dss_cons (ds_setF (i := 2) sc_wo2.nd rfl (Or.inr rfl) (de_op (op_addA K) opd_add (de_var (pv 2)) (de_var (pv 3))))
        (dss_one (ds_expr (de_callT c_check_many.v (hr.mono (by decide)) (by rfl) (takes_of rfl rfl rfl rfl) (lxt_fn hl) (fun _ => .nil) (da_cons (de_callB (klen K) cad_len (by rfl) T.n_len PySem.boot_len (da_cons (de_var (pv 2)) da_nil)) da_nil)))))))
      (dss_cons (ds_lcF (i := 5) (own := [("at", 8), ("word", 6)]) rfl sc_wo2.nd rfl rfl (sw_true rfl rfl rfl (by decide +kernel)) (di_enum K (by rfl) T.n_enumerate (de_var (pv 2))) (blkOk_by (own := [("at", 8), ("word", 6)]) (by show blkC ["letters", "depth", "words", "longest", "_", "pairs", "word", "letter", "at"] (defScope s_wo2) _ _ = true; decide +kernel)) (fun _ _ _ _ _ _ _ _ => (dg_tup K (n := 2) rfl (dgs_cons (dg_name (i := 8) sc_wo2.nd rfl (Or.inl rfl)) (dgs_cons (dg_name (i := 6) sc_wo2.nd rfl (Or.inl rfl)) dgs_nil)))) (fun _ _ _ _ _ _ _ _ => (dps_one (dt_truth K (de_var (pv 6))))) (fun _ _ _ _ _ _ _ _ => (de_tup (da_cons (de_indexT K (de_var (pv 2)) (de_slice K (de_var (pv 6)) do_none (do_some (de_un un_neg und_neg de_int))) hr) (da_cons (de_var (pv 8)) da_nil)))) (by decide) s)
      (dss_one (ds_ret (de_tup (da_cons (de_make oOrder (hr.mono (by decide)) (by rfl) (takes_of rfl rfl rfl rfl) (lxt_fn hl) (da_cons (de_callB (klen K) cad_len (by rfl) T.n_len PySem.boot_len (da_cons (de_var (pv 2)) da_nil)) (da_cons (de_var (pv 5)) da_nil))) (da_cons (de_callTy (ktuple_of K) cad_tuple (by rfl) T.n_tuple (by decide +kernel) (da_cons (de_var (pv 2)) da_nil)) da_nil)))))))))))
      , fun ds Q h => ?_⟩)
  · obtain ⟨_, _, rfl, _⟩ := h
    rfl
  · obtain ⟨a, b, rfl, pa, pb, h1, h2⟩ := h
    refine sq_go fun S hS => ?_
    walk_at "d"
    refine ⟨_, _, _, some 1, some 23, rfl, rfl, rfl, pa, ?_⟩
    cases e : wholeD a (some 1) (some 23) with
    | false =>
      walk_at "d"
      exact ⟨by decide, h1 e⟩
    | true =>
      obtain ⟨L, rfl, l1, l23⟩ := whole_nat (by decide) e
      obtain ⟨h2, h3⟩ := h2 L rfl (by omega) (by omega)
      walk_at "d"
      refine hS _ ?_
      clear hS S
      refine sq_go fun S hS => ?_
      walk_at "d"
      refine ⟨_, _, _, some 0, some 23, rfl, rfl, rfl, pb, ?_⟩
      cases e2 : wholeD b (some 0) (some 23) with
      | false =>
        walk_at "d"
        exact ⟨by decide, h2 e2⟩
      | true =>
        obtain ⟨d, rfl, d0, d23⟩ := whole_nat (by decide) e2
        obtain ⟨h3, h4⟩ := h3 d rfl (by omega)
        walk_at "d"
        refine hS _ ?_
        clear hS S
        refine sq_go fun S hS => ?_
        walk_at "d"
        refine ⟨by decide, by decide, hS _ ?_⟩
        clear hS S
        refine sq_go fun S hS => ?_
        walk_at "d"
        refine ⟨by decide, by decide, hS _ ?_⟩
        clear hS S
        refine sq_go fun S hS => ?_
        walk_at "d"
        rw [rgD_n]
        refine ⟨r62_0, r62 (by omega), dFor_rg (fun i ρ => i ≤ d ∧ (wordsL L i).length ≤ 24 ∧ ∃ o : Option D, ρ = [some (OV.dat (.int (L : Int))), some (OV.dat (.int (d : Int))), some (OV.dat (.lst ((wordsL L i).map stD))), some (OV.dat (.lst ((levL L i).map stD))), o.map OV.dat, none, none, none, none]) ?_ ?_ ⟨Nat.zero_le _, (by decide : 1 ≤ 24), none, rfl⟩⟩
        rotate_left
        · rintro i hi C' ρ ⟨_, w24, o, rfl⟩ hC
          show dSq _ _ _ _
          refine sq_go fun S hS => ?_
          walk_at "d"
          have l1 := lev_le (L := L) (i := i)
          have l2 := lev_len L i
          have l3 : (levL L i).length * L ≤ 24 * 23 := Nat.mul_le_mul (by omega) (by omega)
          refine dLc2L_g (m := 24 * 23) stD (fun w => (List.range L).map fun l => stD (w ++ [l])) _ _ (by rw [fm_len (k := L) (fun w => by simp)]; simpa using l3) (fun v hv acc R hb hR => ?_) ?_
          · rw [List.length_map, List.length_range] at hb
            have lv := lev_mem hv
            unfold stD
            walk_at "d"
            rw [rgD_n]
            refine ⟨r62_0, r62 (by omega), dLc_nsA (fun _ => true) (fun l => stD (v ++ [l])) _ _ (by rw [List.length_range]; omega) (fun _ _ e => by cases e) (fun l hl T C0 g1 _ => ?_) (by rw [flt_true]; exact hR)⟩
            walk_at "d"
            refine ⟨by decide, by rw [nsD_len]; unfold sizeLine; omega, g1 rfl _ _ rfl ?_⟩
            show D.tup (nsD v ++ [D.int (l : Int)]) = .tup (nsD (v ++ [l]))
            rw [nsD_app]
            rfl
          · rw [List.nil_append]
            have el : (levL L i).flatMap (fun w => (List.range L).map fun l => stD (w ++ [l])) = (levL L (i + 1)).map stD := by
              show _ = ((levL L i).flatMap fun w => (List.range L).map fun l => w ++ [l]).map stD
              rw [List.map_flatMap]
              refine congrArg (levL L i).flatMap (funext fun w => ?_)
              rw [List.map_map]
              rfl
            rw [el]
            refine hS _ ?_
            clear hS S
            show dSq _ _ _ _
            refine sq_go fun S hS => ?_
            walk_at "d"
            have ll : (levL L (i + 1)).length ≤ 24 * 23 := by omega
            refine ⟨by rw [List.length_map, List.length_map]; unfold sizeLine; omega, hS _ ?_⟩
            clear hS S
            rw [← List.map_append, show wordsL L i ++ levL L (i + 1) = wordsL L (i + 1) from rfl]
            walk_at "d"
            have mono := words_len_mono (L := L) (i := i + 1) (d := d) hi
            refine ⟨_, by rw [List.length_map], fun h24 => hC _ ⟨hi, h24, some (.int (i : Int)), rfl⟩, fun h24 => h3 (by omega)⟩
        · rintro ρ ⟨_, w24, o, rfl⟩
          refine hS _ ?_
          clear hS S
          refine sq_go fun S hS => ?_
          walk_at "d"
          have rk := rows_words L d
          have cl : ∀ v ∈ wordsL L d, v ≠ [] → v.dropLast ∈ wordsL L d := fun v hv ne => words_drop hv ne
          have sz : ∀ v ∈ wordsL L d, v.length ≤ d := fun v hv => (words_mem.mp hv).1
          have p := po_words rk w24
          have h4 := h4 w24
          generalize wordsL L d = Y at h4 rk cl sz w24 p ⊢
          have gm : ∀ i, i < Y.length → Y.getD i [] ∈ Y := fun i hi => by rw [getD_eq hi]; exact List.getElem_mem hi
          refine .inl ⟨_, rfl, ?_⟩
          rw [enD_eq, enF_rows]
          refine dLc_gA (fun i => .tup [nD i, stD (Y.getD i [])]) (fun i => !(Y.getD i []).isEmpty) (fun i => cpD (Y.idxOf (Y.getD i []).dropLast, i)) (List.range Y.length) [] (by rw [List.length_range, List.length_nil]; omega) (fun _ _ _ => rfl) (fun i hi T C0 g1 g2 => ?_) ?_
          · have hi := List.mem_range.mp hi
            have li := sz _ (gm i hi)
            unfold nD
            walk_at "d"
            have em : (!(nsD (Y.getD i [])).isEmpty) = !(Y.getD i []).isEmpty := by
              unfold nsD
              rw [List.isEmpty_map]
            unfold stD
            walk_at "d"
            rw [em]
            refine ite_d (fun e => ?_) fun e => g2 (by simpa using e)
            have ne : Y.getD i [] ≠ [] := by simpa using e
            have mem := cl _ (gm i hi) ne
            have jl := List.idxOf_lt_length_iff.mpr mem
            unfold dIdxT
            walk_at "d"
            refine ⟨_, rfl, ?_⟩
            rw [cut_last]
            refine ⟨stD (Y.getD i []).dropLast, Y.idxOf (Y.getD i []).dropLast, rfl, shp_rows Y, shp_st _, by rw [List.length_map]; exact jl, fun m z hm hz => ?_, ?_⟩
            · rw [List.getElem?_map] at hz
              obtain ⟨y, e1, rfl⟩ := Option.map_eq_some_iff.mp hz
              obtain ⟨hm2, e2⟩ := List.getElem?_eq_some_iff.mp e1
              rw [show (D.tup (nsD y)) = stD y from rfl, eq_st]
              refine bool_ext ?_
              rw [decide_eq_true_eq, decide_eq_true_eq]
              constructor
              · intro h
                refine rk.inj hm2 jl ?_
                rw [getD_eq hm2, getD_eq jl, e2, List.getElem_idxOf, h]
              · intro h
                subst h
                rw [← e2, List.getElem_idxOf]
            · exact ⟨by decide, g1 e _ _ rfl rfl⟩
          · rw [List.nil_append]
            refine hS _ ?_
            clear hS S
            unfold dMake
            walk_at "d"
            rw [List.length_map, show (List.map (fun i => cpD (List.idxOf (Y.getD i []).dropLast Y, i)) (List.filter (fun i => !(Y.getD i []).isEmpty) (List.range Y.length))) = ((List.filter (fun i => !(Y.getD i []).isEmpty) (List.range Y.length)).map fun i => (Y.idxOf (Y.getD i []).dropLast, i)).map cpD by rw [List.map_map]; rfl]
            refine p.oiL (.inl rfl) ?_ (fun z hz => ?_) (fun x y hx hy c => ?_) ⟨by decide, h4⟩
            · rw [List.length_map]
              have := List.length_filter_le (fun i => !(Y.getD i []).isEmpty) (List.range Y.length)
              rw [List.length_range] at this
              omega
            · obtain ⟨i, hi, rfl⟩ := List.mem_map.mp hz
              obtain ⟨hi, e⟩ := List.mem_filter.mp hi
              have hi := List.mem_range.mp hi
              have ne : Y.getD i [] ≠ [] := by simpa using e
              have jl := List.idxOf_lt_length_iff.mpr (cl _ (gm i hi) ne)
              have ej : Y.getD (Y.idxOf (Y.getD i []).dropLast) [] = (Y.getD i []).dropLast := by rw [getD_eq jl, List.getElem_idxOf]
              refine ⟨jl, hi, sB_iff.mpr ⟨fun z => ?_, preB_iff.mpr (by rw [ej]; exact List.dropLast_prefix _)⟩⟩
              have z : i = Y.idxOf (Y.getD i []).dropLast := z
              rw [← z] at ej
              have := congrArg List.length ej
              rw [List.length_dropLast] at this
              have := List.length_pos_iff.mpr ne
              omega
            · have hz : Y.getD y [] ≠ [] → (Y.getD y []).dropLast ∈ Y := fun ne => cl _ (gm y hy) ne
              have ny : Y.getD y [] ≠ [] := fun z => by
                obtain ⟨ne, q⟩ := sB_iff.mp (cvB_iff.mp c).1
                have pr := preB_iff.mp q
                rw [z] at pr
                have := List.prefix_nil.mp pr
                exact ne (rk.inj hy hx (by rw [z, this]))
              have jl := List.idxOf_lt_length_iff.mpr (hz ny)
              have ej : Y.getD (Y.idxOf (Y.getD y []).dropLast) [] = (Y.getD y []).dropLast := by rw [getD_eq jl, List.getElem_idxOf]
              obtain ⟨_, e⟩ := words_cover rk hx hy jl ej c
              refine List.mem_map.mpr ⟨y, List.mem_filter.mpr ⟨List.mem_range.mpr hy, by simpa using ny⟩, ?_⟩
              rw [e]
end
end Z

set_option Elab.async false
set_option linter.all false
set_option maxRecDepth 100000
namespace Z
open PySem L2
variable [TabsP]
local macro_rules | `(tactic| walk_at "d") => `(tactic| simp only [dSq, dIf, dOr, dAnd, dNot, dTT, dTB, dUn, dBin, dVar, dC, dRet, dNext, dOrV, dAndV, dNotT, dIfE, isiD, OV.isOwn, startD, List.map_cons, List.map_nil, List.cons_append, List.nil_append, List.append_nil, List.length_cons, List.length_nil, List.replicate, Nat.reduceAdd, Nat.reduceSub, Nat.sub_self, Nat.add_sub_cancel,
  List.getElem?_cons_zero, List.getElem?_cons_succ, bOk, iv_d, iv_n, iv_v, nr_d, nr_n, List.any_cons, List.any_nil, Bool.or_false, Bool.or_true, Bool.false_eq_true, Bool.not_true, Bool.not_false, false_implies, true_and, and_true, if_true, if_false, ite_true, ite_false, forall_const, reduceIte, reduceCtorEq,
  d0_1, dI_1, ad_i, ad_t, ad_l, ng_1, dCa, dCall0, dCons, dNil, dTup, dLst, dEq, dSeq, dRange, dEnum, dRg1, dRg2, dListRg, dTupRg, dSl, dONone, dOSome, dCall, mv_d, mv_n, mv_v, nn_n, nn_b, nn_i, nn_s, nn_l, nn_t, nn_x, nn_d, dSetF, dSetO, dDrop, dFor, dgName, dgTup, dgCons, dgNil, dRetN, dYes, it_1, pm_1, nmR, dXf, dIsE, sq_l, sq_t, sq_x, tr_n, tr_b, tr_i, tr_l, tr_t, tr_x, tr_d, vl_d, vl_n, vl_v, fr_d, fr_o, fr_k, sl_l, sl_t, sl_x, le_1, li_1, tu_1, tu_l, tu_t, tu_x, tx_1, tx_l, tx_t, tx_x, rr_d, rr_n, rr_v, in_1, ix_1, dt_1, isB_1, dCallT, dIdx, dRaise, dAsg, dDnew, List.set_cons_zero, List.set_cons_succ, noOwnAt, List.all_cons, List.all_nil, wipeE, lent, hasOwn, Option.map_some, Option.map_none, dLc, lt_n, pl_n, tyB_n, tyI_n, tyS_n, tyL_n, tyT_n, lt_b, pl_b, tyB_b, tyI_b, tyS_b, tyL_b, tyT_b, lt_i, pl_i, tyB_i, tyI_i, tyS_i, tyL_i, tyT_i, lt_s, pl_s, tyB_s, tyI_s, tyS_s, tyL_s, tyT_s, lt_l, pl_l, tyB_l, tyI_l, tyS_l, tyL_l, tyT_l, lt_t, pl_t, tyB_t, tyI_t, tyS_t, tyL_t, tyT_t, lt_x, pl_x, tyB_x, tyI_x, tyS_x, tyL_x, tyT_x, lt_d, pl_d, tyB_d, tyI_d, tyS_d, tyL_d, tyT_d, noL, noLA, Bool.and_true, Bool.true_and])
local macro_rules | `(tactic| walk_at "e") => `(tactic| first | exact ⟨_, rfl, rfl⟩ | rfl)
abbrev s_over : Stmt := top 33
abbrev s_labv : Stmt := top 35
section
variable {P : Program} {w : World} {K : PySem.W.Frag} {mg : Str → Option Value} {base : Heap}
theorem sc_over : FnScope ["below", "x", "higher", "y", "z"] ["below", "x"] (defScope s_over) := ⟨rfl, rfl, rfl, by decide +kernel, rfl, by decide +kernel, by decide +kernel⟩
theorem sc_labv : FnScope ["below", "x", "y"] ["below", "x"] (defScope s_labv) := ⟨rfl, rfl, rfl, by decide +kernel, rfl, by decide +kernel, by decide +kernel⟩
/-- a square of words as it stands in the law: what is at most what -/
def wOver : DW := fun ds Q _ => ∃ (n x : Nat) (B : Nat → Nat → Bool), ds = [.lst (rowsD n B), .int (x : Int)] ∧ n ≤ 24 ∧ x < n ∧ Q (.new (nsD (fl n (cvB n B x))))
theorem ok_over {f : Addr} {fd : FuncData} (F : Fun K "_law_over" "_law_over" s_over f fd) (T : Bl mg) : FnOk P w K mg base CX0 1 f fd ["below", "x"] (spD K wOver) := by
  refine okD F sc_over (fun ds Q ex h => ?_) (fun cdv A outer s H E hr md F0 a0 => ⟨_, _,
      (dss_cons (ds_setF (i := 2) sc_over.nd rfl (Or.inr rfl) (de_lc (own := [("y", 3)]) rfl sc_over.nd (di_range1 (by rfl) T.n_range (de_callB (klen K) cad_len (by rfl) T.n_len PySem.boot_len (da_cons (de_var (pv 0)) da_nil))) (blkOk_by (own := [("y", 3)]) (by show blkC ["below", "x", "higher", "y", "z"] (defScope s_over) _ _ = true; decide +kernel)) (fun _ _ _ _ _ _ _ _ => (dg_name (i := 3) sc_over.nd rfl (Or.inl rfl))) (fun _ _ _ _ _ _ _ _ => (dps_one (DWs.ts (dw_and (dt_cmp (kneD K hr.units) opd_ne (de_var (pv 3)) (de_var (pv 1)) (nomark _)) (dw_and1 (dt_truth K (de_ix (kix_seq K) opd_ix (de_ix (kix_seq K) opd_ix (de_var (pv 0)) (de_var (pv 1)) (fun _ _ => rfl)) (de_var (pv 3)) (fun _ _ => rfl)))))))) (fun _ _ _ _ _ _ _ _ => (de_var (pv 3))) (by decide) s))
      (dss_one (ds_ret (de_lc (own := [("y", 3)]) rfl sc_over.nd (di_seq K (de_var (pv 2))) (blkOk_by (own := [("y", 3)]) (by show blkC ["below", "x", "higher", "y", "z"] (defScope s_over) _ _ = true; decide +kernel)) (fun _ _ _ _ _ _ _ _ => (dg_name (i := 3) sc_over.nd rfl (Or.inr rfl))) (fun _ _ _ _ _ _ _ _ => (dps_one (dt_not (dt_truth K (de_lc (own := [("z", 4)]) rfl sc_over.nd (di_seq K (de_var (pv 2))) (blkOk_by (own := [("z", 4)]) (by show blkC ["below", "x", "higher", "y", "z"] (relS _ (defScope s_over)) _ _ = true; decide +kernel)) (fun _ _ _ _ _ _ _ _ => (dg_name (i := 4) sc_over.nd rfl (Or.inl rfl))) (fun _ _ _ _ _ _ _ _ => (dps_one (DWs.ts (dw_and (dt_cmp (kneD K hr.units) opd_ne (de_var (pv 4)) (de_var (pv 3)) (nomark _)) (dw_and1 (dt_truth K (de_ix (kix_seq K) opd_ix (de_ix (kix_seq K) opd_ix (de_var (pv 0)) (de_var (pv 4)) (fun _ _ => rfl)) (de_var (pv 3)) (fun _ _ => rfl)))))))) (fun _ _ _ _ _ _ _ _ => (de_var (pv 4))) (by decide) s))))) (fun _ _ _ _ _ _ _ _ => (de_var (pv 3))) (by decide) s))))
      , fun ds Q ex h => ?_⟩)
  · obtain ⟨_, _, _, rfl, _⟩ := h
    rfl
  · obtain ⟨n, x, B, rfl, n24, hx, q⟩ := h
    have lz : ∀ l : List Nat, l.length ≤ n → l.length ≤ 2 ^ 24 := fun l h => by omega
    refine sq_go fun S hS => ?_
    walk_at "d"
    rw [rowsD_len, rgD_n]
    refine ⟨r62_0, r62 (by omega), dLc_ns (sB B x) nD (lz _ (by simp)) (fun _ _ e => by cases e) (fun y hy T C0 g1 g2 => ?_) ?_⟩
    · have hy := List.mem_range.mp hy
      walk_at "d"
      refine ⟨rfl, rfl, ?_⟩
      rw [eqN]
      by_cases c : y = x
      · refine ite_f (by simp [c]) (g2 ?_)
        unfold sB
        simp [c]
      · refine ite_t (by simp [c]) ⟨_, atRR hx, _, atR hy, ?_⟩
        have e1 : sB B x y = B x y := by unfold sB; simp [c]
        cases e : B x y with
        | false => exact g2 (e1.trans e)
        | true => exact g1 (e1.trans e) _ _ rfl rfl
    · refine hS _ ?_
      clear hS S
      walk_at "d"
      have hq : nsD (fl n (cvB n B x)) = ((fl n (sB B x)).filter fun y => ((fl n (sB B x)).filter fun z => decide (z ≠ y) && B z y).isEmpty).map nD := by
        show nsD _ = nsD _
        refine congrArg nsD ?_
        unfold fl
        rw [List.filter_filter]
        refine List.filter_congr fun y _ => ?_
        rw [List.filter_filter]
        unfold cvB fl
        rw [Bool.and_comm]
        refine congrArg (· && sB B x y) (congrArg List.isEmpty (List.filter_congr fun z _ => ?_))
        rw [Bool.and_comm]
      rw [hq] at q
      have hl : (fl n (sB B x)).length ≤ n := Nat.le_trans (List.length_filter_le _ _) (by rw [List.length_range]; exact Nat.le_refl _)
      refine dLc_ns (ns := fl n (sB B x)) (fun y => ((fl n (sB B x)).filter fun z => decide (z ≠ y) && B z y).isEmpty) nD (lz _ hl) (fun _ _ e => by cases e) (fun y hy T C0 g1 g2 => ?_) q
      have hy := (fl_mem.mp hy).1
      walk_at "d"
      refine dLc_ns (ns := fl n (sB B x)) (fun z => decide (z ≠ y) && B z y) nD (lz _ hl) (fun _ _ e => by cases e) (fun z hz T2 C2 k1 k2 => ?_) ?_
      · have hz := (fl_mem.mp hz).1
        walk_at "d"
        refine ⟨rfl, rfl, ?_⟩
        rw [eqN]
        by_cases c : z = y
        · exact ite_f (by simp [c]) (k2 (by simp [c]))
        · refine ite_t (by simp [c]) ⟨_, atRR hz, _, atR hy, ?_⟩
          cases e : B z y with
          | false => exact k2 (by simp [e])
          | true => exact k1 (by simp [c, e]) _ _ rfl rfl
      · rw [Bool.not_not, List.isEmpty_map]
        cases e : ((fl n (sB B x)).filter fun z => decide (z ≠ y) && B z y).isEmpty with
        | true => exact ite_t rfl (g1 e _ _ rfl rfl)
        | false => exact ite_f (by simp) (g2 e)
def wLabv : DW := fun ds Q _ => ∃ (n x : Nat) (B : Nat → Nat → Bool), ds = [.lst (rowsD n B), .int (x : Int)] ∧ n ≤ 24 ∧ x < n ∧ Q (.dat (stD (abL n (sB B) x)))
theorem ok_labv {f : Addr} {fd : FuncData} (F : Fun K "_law_above" "_law_above" s_labv f fd) (T : Bl mg) : FnOk P w K mg base CX0 1 f fd ["below", "x"] (spD K wLabv) := by
  refine okD F sc_labv (fun ds Q ex h => ?_) (fun cdv A outer s H E hr md F0 a0 => ⟨_, _,
      (dss_one (ds_ret (de_callTy (ktuple_of K) cad_tuple (by rfl) T.n_tuple (by decide +kernel) (da_cons (de_lc (own := [("y", 2)]) rfl sc_labv.nd (di_range1 (by rfl) T.n_range (de_callB (klen K) cad_len (by rfl) T.n_len PySem.boot_len (da_cons (de_var (pv 0)) da_nil))) (blkOk_by (own := [("y", 2)]) (by show blkC ["below", "x", "y"] (defScope s_labv) _ _ = true; decide +kernel)) (fun _ _ _ _ _ _ _ _ => (dg_name (i := 2) sc_labv.nd rfl (Or.inl rfl))) (fun _ _ _ _ _ _ _ _ => (dps_one (DWs.ts (dw_and (dt_cmp (kneD K hr.units) opd_ne (de_var (pv 2)) (de_var (pv 1)) (nomark _)) (dw_and1 (dt_truth K (de_ix (kix_seq K) opd_ix (de_ix (kix_seq K) opd_ix (de_var (pv 0)) (de_var (pv 1)) (fun _ _ => rfl)) (de_var (pv 2)) (fun _ _ => rfl)))))))) (fun _ _ _ _ _ _ _ _ => (de_var (pv 2))) (by decide) s) da_nil))))
      , fun ds Q ex h => ?_⟩)
  · obtain ⟨_, _, _, rfl, _⟩ := h
    rfl
  · obtain ⟨n, x, B, rfl, n24, hx, q⟩ := h
    walk_at "d"
    rw [rowsD_len, rgD_n]
    refine ⟨r62_0, r62 (by omega), dLc_ns (sB B x) nD (by rw [List.length_range]; omega) (fun _ _ e => by cases e) (fun y hy T C0 g1 g2 => ?_) q⟩
    have hy := List.mem_range.mp hy
    walk_at "d"
    refine ⟨rfl, rfl, ?_⟩
    rw [eqN]
    by_cases c : y = x
    · refine ite_f (by simp [c]) (g2 ?_)
      unfold sB
      simp [c]
    · refine ite_t (by simp [c]) ⟨_, atRR hx, _, atR hy, ?_⟩
      have e1 : sB B x y = B x y := by unfold sB; simp [c]
      cases e : B x y with
      | false => exact g2 (e1.trans e)
      | true => exact g1 (e1.trans e) _ _ rfl rfl
end
end Z

set_option Elab.async false
set_option linter.all false
set_option maxRecDepth 100000
namespace Z
open PySem L2
variable [TabsP]
local macro_rules | `(tactic| walk_at "d") => `(tactic| simp only [dSq, dIf, dOr, dAnd, dNot, dTT, dTB, dUn, dBin, dVar, dC, dRet, dNext, dOrV, dAndV, dNotT, dIfE, isiD, OV.isOwn, startD, List.map_cons, List.map_nil, List.cons_append, List.nil_append, List.append_nil, List.length_cons, List.length_nil, List.replicate, Nat.reduceAdd, Nat.reduceSub, Nat.sub_self, Nat.add_sub_cancel,
  List.getElem?_cons_zero, List.getElem?_cons_succ, bOk, iv_d, iv_n, iv_v, nr_d, nr_n, List.any_cons, List.any_nil, Bool.or_false, Bool.or_true, Bool.false_eq_true, Bool.not_true, Bool.not_false, false_implies, true_and, and_true, if_true, if_false, ite_true, ite_false, forall_const, reduceIte, reduceCtorEq,
  d0_1, dI_1, ad_i, ad_t, ad_l, ng_1, dCa, dCons, dNil, dTup, dLst, dEq, dSeq, dRange, dEnum, dRg1, dRg2, dListRg, dTupRg, dSl, dONone, dOSome, dCall, mv_d, mv_n, mv_v, nn_n, nn_b, nn_i, nn_s, nn_l, nn_t, nn_x, nn_d, dSetF, dSetO, dDrop, dFor, dgName, dgTup, dgCons, dgNil, dRetN, dYes, it_1, pm_1, nmR, dXf, dIsE, sq_l, sq_t, sq_x, tr_n, tr_b, tr_i, tr_l, tr_t, tr_x, tr_d, vl_d, vl_n, vl_v, fr_d, fr_o, fr_k, sl_l, sl_t, sl_x, le_1, li_1, tu_1, tu_l, tu_t, tu_x, tx_1, tx_l, tx_t, tx_x, rr_d, rr_n, rr_v, in_1, ix_1, dt_1, isB_1, dCallT, dIdx, dRaise, dAsg, dDnew, List.set_cons_zero, List.set_cons_succ, noOwnAt, List.all_cons, List.all_nil, wipeE, lent, hasOwn, Option.map_some, Option.map_none, dLc, lt_n, pl_n, tyB_n, tyI_n, tyS_n, tyL_n, tyT_n, lt_b, pl_b, tyB_b, tyI_b, tyS_b, tyL_b, tyT_b, lt_i, pl_i, tyB_i, tyI_i, tyS_i, tyL_i, tyT_i, lt_s, pl_s, tyB_s, tyI_s, tyS_s, tyL_s, tyT_s, lt_l, pl_l, tyB_l, tyI_l, tyS_l, tyL_l, tyT_l, lt_t, pl_t, tyB_t, tyI_t, tyS_t, tyL_t, tyT_t, lt_x, pl_x, tyB_x, tyI_x, tyS_x, tyL_x, tyT_x, lt_d, pl_d, tyB_d, tyI_d, tyS_d, tyL_d, tyT_d, noL, noLA, Bool.and_true, Bool.true_and])
local macro_rules | `(tactic| walk_at "e") => `(tactic| first | exact ⟨_, rfl, rfl⟩ | rfl)
abbrev s_sqd : Stmt := top 37
abbrev s_ex : Stmt := top 32
section
variable {P : Program} {w : World} {K : PySem.W.Frag} {mg : Str → Option Value} {base : Heap}
/-! ## rows -/
def rgI (a b : Int) : List Int := (List.range (b - a).toNat).map fun i => a + (i : Nat)
theorem rgD_I (a b : Int) : rgD a b = (rgI a b).map D.int := by
  unfold rgD rgI
  rw [List.map_map]
  rfl
theorem rgI_mem {a b x : Int} : x ∈ rgI a b ↔ a ≤ x ∧ x < b := by
  unfold rgI
  rw [List.mem_map]
  constructor
  · rintro ⟨i, hi, rfl⟩
    rw [List.mem_range] at hi
    omega
  · intro h
    exact ⟨(x - a).toNat, by rw [List.mem_range]; omega, by omega⟩
theorem rgI_len (a b : Int) : (rgI a b).length = (b - a).toNat := by unfold rgI; rw [List.length_map, List.length_range]
theorem atI_nat {α : Type} {xs : List α} {j : Nat} : atI xs (j : Int) = xs[j]? := by
  unfold atI ixN
  rw [if_pos (by omega)]
  by_cases h : j < xs.length
  · rw [if_pos (by omega)]
    rfl
  · rw [if_neg (by omega), List.getElem?_eq_none (by omega)]
    rfl
def wDraw : DW := fun ds Q _ => ∃ m : Int, ds = [.hnd, .int m] ∧ 1 ≤ m ∧ m < 1073741824 ∧ ∀ d : Int, 0 ≤ d → d < m → Q (.dat (.int d))
theorem spD_draw {vs : List V} {H : Hp} {Q : VK} {E : XK} (h : spD K wDraw vs H Q E) : spDraw vs H Q E := by
  obtain ⟨B, ds, P', ex, rfl, rfl, ok, a, ⟨m, rfl, m0, m1, q⟩, hk, _⟩ := h
  cases a with
  | cons a1 a2 =>
    cases a2 with
    | cons a2 a3 =>
      cases a3
      cases a2
      cases a1 with
      | @hnd h e =>
        have e : B.md.map (·.1) = some h := e
        cases em : B.md with
        | none => rw [em] at e; cases e
        | some p =>
          rw [em] at e
          obtain ⟨p1, p2⟩ := p
          cases e
          obtain ⟨hn, f0⟩ := ok.hnd _ em
          obtain ⟨o, ho⟩ := hn.there
          refine ⟨p1, p2, m, rfl, hn, m0, m1, fun d H' d0 d1 kp hn' _ => hk (.dat (.int d)) _ B.F0 H' (q d d0 d1) ⟨Same.refl _, ⟨fun b o ez => ?_, ok.sb.nt, tabs_off ok.sb.tb hn.kt fun b o e n => kp b o e n⟩, fun b hb => .inl hb, fun b o e n _ => kp b o e (n _ em), fun p e => ?_⟩ (.int d)⟩
          · refine kp b o (ok.sub _ _ ez) fun z => ?_
            subst z
            have f0 : B.F0 b = none := f0
            rw [f0] at ez; cases ez
          · rw [em] at e
            cases e
            exact ⟨hn', f0, hn.ex1.elim fun u hu => someO hu.1 hu.2⟩
theorem draw_D (c : Cal P w K mg base CX0 "_law_draw" 2 spDraw) : Cal P w K mg base CX0 "_law_draw" 2 (spD K wDraw) := by
  obtain ⟨f, fd, ps, h1, h2, h3, h4⟩ := c.ex
  exact ⟨f, fd, ps, h1, h2, h3, h4.imp fun vs H Q E h => spD_draw h⟩
theorem perm_er {α : Type} : ∀ {l : List α} {d : Nat} (h : d < l.length), ([l[d]] ++ l.eraseIdx d).Perm l
  | x :: l, 0, _ => .refl _
  | x :: l, d + 1, h => (List.Perm.swap _ _ _).trans ((perm_er (l := l) (d := d) (by simpa using h)).cons x)
theorem er_map : ∀ (l : List Int) (t : Nat), (l.eraseIdx t).map D.int = (l.map D.int).eraseIdx t
  | [], _ => rfl
  | _ :: _, 0 => rfl
  | x :: l, t + 1 => by
    rw [List.eraseIdx_cons_succ, List.map_cons, List.map_cons, List.eraseIdx_cons_succ, er_map l t]
theorem seqIndex_nat {t n : Nat} (h : t < n) : seqIndex? (t : Int) n = some t := by
  unfold seqIndex?
  simp only [show ¬ ((t : Int) < 0) by omega, if_false]
  rw [if_pos (by simp; omega)]
  simp
theorem pn_ints : ∀ ns : List Int, noLA (ns.map D.int) = true
  | [] => rfl
  | n :: ns => by simpa [noLA, noL] using pn_ints ns
abbrev rowT (is : List Int) : D := .tup (is.map D.int)
theorem sc_sqd : FnScope ["hand", "row"] ["hand", "row"] (defScope s_sqd) := ⟨rfl, rfl, rfl, by decide +kernel, rfl, by decide +kernel, by decide +kernel⟩
def wSeqd : DW := fun ds Q _ => ∃ x xs t, ds = [.hnd, x] ∧ seqOfD x = some xs ∧ tupOfD x = some t ∧ Q (.new xs) ∧ Q (.dat t)
theorem ok_sqd {f : Addr} {fd : FuncData} (F : Fun K "_law_seq" "_law_seq" s_sqd f fd) (T : Bl mg) (c_law_draw : Cal P w K mg base CX0 "_law_draw" 2 (spD K wDraw)) : FnOk P w K mg base CX0 3 f fd ["hand", "row"] (spD K wSeqd) := by
  refine okD F sc_sqd (fun ds Q ex h => ?_) (fun cdv A outer s H E hr md F0 a0 => ⟨_, _,
      (dss_one (ds_ret (de_ifExp (dt_cmp (keqD K hr.units) opd_eq (de_call c_law_draw (hr.mono (by decide)) (by rfl) (da_cons (de_var (pv 0)) (da_cons de_int da_nil))) de_int (nomark _)) (de_callTy (klist_of K) cad_list (by rfl) T.n_list (by decide +kernel) (da_cons (de_var (pv 1)) da_nil)) (de_callTy (ktuple_of K) cad_tuple (by rfl) T.n_tuple (by decide +kernel) (da_cons (de_var (pv 1)) da_nil)))))
      , fun ds Q ex h => ?_⟩)
  · obtain ⟨_, _, _, rfl, _⟩ := h
    rfl
  · obtain ⟨x, xs, t, rfl, e1, e2, q1, q2⟩ := h
    walk_at "d"
    refine ⟨2, rfl, by decide, by decide, fun d d0 d1 => ?_⟩
    walk_at "d"
    rw [e1, e2]
    refine ⟨rfl, rfl, ?_⟩
    exact ite_b q1 q2
/-- told exactly what is due -/
def exB (a b : D) : Prop := match b with
  | .non => a = .non
  | .bl c => a = .bl c
  | .int i => a = .int i
  | .str x => a = .str x ∧ PyData.strOk x = true
  | _ => False
def exOk : Nat → D → D → Prop
  | 0, _, _ => False
  | n + 1, a, b => exB a b ∨ ∃ (xs ys : List D), (a = .tup xs ∨ a = .tpx xs) ∧ (b = .tup ys ∨ b = .tpx ys) ∧ xs.length = ys.length ∧ xs.length ≤ 1000 ∧ ∀ (i : Nat) (x y : D), xs[i]? = some x → ys[i]? = some y → exOk n x y
theorem exOk_s {n : Nat} {a b : D} : exOk (n + 1) a b = (exB a b ∨ ∃ (xs ys : List D), (a = .tup xs ∨ a = .tpx xs) ∧ (b = .tup ys ∨ b = .tpx ys) ∧ xs.length = ys.length ∧ xs.length ≤ 1000 ∧ ∀ (i : Nat) (x y : D), xs[i]? = some x → ys[i]? = some y → exOk n x y) := rfl
def wExact (n : Nat) : DW := fun ds Q _ => ∃ a b, ds = [a, b] ∧ exOk n a b ∧ Q (.dat (.bl true))
theorem sc_ex : FnScope ["told", "due", "k"] ["told", "due"] (defScope s_ex) := ⟨rfl, rfl, rfl, by decide +kernel, rfl, by decide +kernel, by decide +kernel⟩
theorem ok_ex {n k : Nat} {f : Addr} {fd : FuncData} (F : Fun K "_law_exact" "_law_exact" s_ex f fd) (T : Bl mg) (c_law_exact : Cal P w K mg base CX0 "_law_exact" k (spD K (wExact n))) : FnOk P w K mg base CX0 (k + 1) f fd ["told", "due"] (spD K (wExact (n + 1))) := by
  refine okD F sc_ex (fun ds Q ex h => ?_) (fun cdv A outer s H E hr md F0 a0 => ⟨_, _,
      (dss_cons (ds_if (dt_truth K (de_isi K .T (by rfl) T.n_isinstance (de_var (pv 1)) (pe_bltn (v := .ty "tuple") (u := .type "tuple") (by rfl) T.n_tuple (by decide +kernel) rfl)))
        (dss_cons (ds_if (DWs.ts (dw_or (dt_not (dt_truth K (de_isi K .T (by rfl) T.n_isinstance (de_var (pv 0)) (pe_bltn (v := .ty "tuple") (u := .type "tuple") (by rfl) T.n_tuple (by decide +kernel) rfl)))) (dw_or1 (dt_cmp (kneD K hr.units) opd_ne (de_callB (klen K) cad_len (by rfl) T.n_len PySem.boot_len (da_cons (de_var (pv 0)) da_nil)) (de_callB (klen K) cad_len (by rfl) T.n_len PySem.boot_len (da_cons (de_var (pv 1)) da_nil)) (nomark _)))))
          (dss_one (ds_ret de_bl))
          dss_nil)
        (dss_one (ds_ret (de_cmp (keqD K hr.units) opd_eq (de_lc (own := [("k", 2)]) rfl sc_ex.nd (di_range1 (by rfl) T.n_range (de_callB (klen K) cad_len (by rfl) T.n_len PySem.boot_len (da_cons (de_var (pv 1)) da_nil))) (blkOk_by (own := [("k", 2)]) (by show blkC ["told", "due", "k"] (defScope s_ex) _ _ = true; decide +kernel)) (fun _ _ _ _ _ _ _ _ => (dg_name (i := 2) sc_ex.nd rfl (Or.inl rfl))) (fun _ _ _ _ _ _ _ _ => (dps_one (dt_not (dt_truth K (de_call c_law_exact hr (by rfl) (da_cons (de_ix (kix_seq K) opd_ix (de_var (pv 0)) (de_var (pv 2)) (fun _ _ => rfl)) (da_cons (de_ix (kix_seq K) opd_ix (de_var (pv 1)) (de_var (pv 2)) (fun _ _ => rfl)) da_nil))))))) (fun _ _ _ _ _ _ _ _ => (de_var (pv 2))) (by decide) s) (de_lst da_nil) (nomark _)))))
        dss_nil)
      (dss_cons (ds_if (dt_cmp op_isN opd_isN (de_var (pv 1)) de_non (nomark _))
        (dss_one (ds_ret (de_cmp op_isN opd_isN (de_var (pv 0)) de_non (nomark _))))
        dss_nil)
      (dss_cons (ds_if (dt_truth K (de_isi K .B (by rfl) T.n_isinstance (de_var (pv 1)) (pe_bltn (v := .ty "bool") (u := .type "bool") (by rfl) T.n_bool (by decide +kernel) rfl)))
        (dss_one (ds_ret (de_ifExp (dt_truth K (de_var (pv 1))) (de_cmp op_is_bl opd_isB (de_var (pv 0)) de_bl (nomark _)) (de_cmp op_is_bl opd_isB (de_var (pv 0)) de_bl (nomark _)))))
        dss_nil)
      (dss_cons (ds_if (dt_truth K (de_isi K .S (by rfl) T.n_isinstance (de_var (pv 1)) (pe_bltn (v := .ty "str") (u := .type "str") (by rfl) T.n_str (by decide +kernel) rfl)))
        (dss_one (ds_ret (de_and (de_isi K .S (by rfl) T.n_isinstance (de_var (pv 0)) (pe_bltn (v := .ty "str") (u := .type "str") (by rfl) T.n_str (by decide +kernel) rfl)) (de_one (de_cmp (keqD K hr.units) opd_eq (de_var (pv 0)) (de_var (pv 1)) (nomark _))))))
        dss_nil)
      (dss_one (ds_ret (de_and (de_isi K .I (by rfl) T.n_isinstance (de_var (pv 0)) (pe_bltn (v := .ty "int") (u := .type "int") (by rfl) T.n_int (by decide +kernel) rfl)) (de_and (de_notT K (de_isi K .B (by rfl) T.n_isinstance (de_var (pv 0)) (pe_bltn (v := .ty "bool") (u := .type "bool") (by rfl) T.n_bool (by decide +kernel) rfl))) (de_one (de_cmp (keqD K hr.units) opd_eq (de_var (pv 0)) (de_var (pv 1)) (nomark _)))))))))))
      , fun ds Q ex h => ?_⟩)
  · obtain ⟨_, _, rfl, _⟩ := h
    rfl
  · obtain ⟨a, b, rfl, e, q⟩ := h
    rw [exOk_s] at e
    rcases e with e | ⟨xs, ys, ha, hb, hl, hz, he⟩
    · cases b <;> first | exact e.elim | skip
      · obtain rfl : a = .non := e
        walk_at "d"
        exact q
      · rename_i c
        obtain rfl : a = .bl c := e
        cases c <;> (walk_at "d"; exact q)
      · rename_i i
        obtain rfl : a = .int i := e
        walk_at "d"
        refine ⟨rfl, ?_⟩
        have : eqD (.int i) (.int i) = true := by show (i == i) = true; simp
        rw [this]
        exact ⟨rfl, q⟩
      · rename_i x
        obtain ⟨rfl, ok⟩ := (show a = .str x ∧ PyData.strOk x = true from e)
        walk_at "d"
        have sh : shp (.str x) = true := by
          show (true && (PyData.strOk x && true)) = true
          rw [ok]
          rfl
        have : eqD (.str x) (.str x) = true := by show (x == x) = true; simp
        rw [this]
        exact ⟨sh, sh, q⟩
    · have pa : plainD a = true ∧ isT5 .T a = true ∧ seqOfD a = some xs := by rcases ha with rfl | rfl <;> exact ⟨rfl, rfl, rfl⟩
      have pb : plainD b = true ∧ isT5 .T b = true ∧ seqOfD b = some ys := by rcases hb with rfl | rfl <;> exact ⟨rfl, rfl, rfl⟩
      walk_at "d"
      rw [pa.1, pa.2.1, pa.2.2, pb.1, pb.2.1, pb.2.2]
      have e0 : eqD (.int xs.length) (.int ys.length) = true := by show ((xs.length : Int) == (ys.length : Int)) = true; rw [hl]; simp
      walk_at "d"
      refine ⟨rfl, rfl, ite_f (by rw [e0]; decide) ⟨by unfold R62; omega, by unfold R62; omega, ?_⟩⟩
      rw [rgD_I]
      refine dLc_ints (fun _ => false) (fun _ => .non) (by rw [rgI_len]; omega) (fun i _ z => by cases z) (fun i hi Z0 C0 _ w2 => ?_) ?_
      · have hm := rgI_mem.mp hi
        obtain ⟨j, rfl⟩ : ∃ j : Nat, i = j := ⟨i.toNat, by omega⟩
        have h1 : j < xs.length := by omega
        have h2 : j < ys.length := by omega
        walk_at "d"
        rw [pa.2.2, pb.2.2]
        refine ⟨xs[j], by rw [atI_nat, List.getElem?_eq_getElem h1], ys[j], by rw [atI_nat, List.getElem?_eq_getElem h2], _, _, rfl, he j _ _ (List.getElem?_eq_getElem h1) (List.getElem?_eq_getElem h2), ?_⟩
        walk_at "d"
        exact w2 rfl
      · have hnil : ((rgI 0 ys.length).filter fun _ => false) = [] := by simp
        rw [hnil]
        exact ⟨Nat.zero_le _, rfl, rfl, q⟩
/-- any number of levels -/
theorem ok_exN {f : Addr} {fd : FuncData} (F : Fun K "_law_exact" "_law_exact" s_ex f fd) (T : Bl mg) (hm : mg "_law_exact" = some (.ref f)) (hk : PySem.W.keepIn K (.ref f) = true) (hb : Binds K fd ["told", "due"] []) : ∀ n, FnOk P w K mg base CX0 n f fd ["told", "due"] (spD K (wExact n))
  | 0 => ⟨fun vs H Q E h => by obtain ⟨_, _, _, _, _, _, _, _, ⟨_, _, _, z, _⟩, _⟩ := h; exact z.elim, fun A outer s H args us vs Q E _ _ _ _ h => by obtain ⟨_, _, _, _, _, _, _, _, ⟨_, _, _, z, _⟩, _⟩ := h; exact z.elim⟩
  | n + 1 => ok_ex F T ⟨f, fd, _, hm, hk, hb, ok_exN F T hm hk hb n⟩
end
end Z

set_option Elab.async false
set_option linter.all false
set_option maxRecDepth 100000
namespace Z
open PySem L2
variable [TabsP]
local macro_rules | `(tactic| walk_at "d") => `(tactic| simp only [dSq, dIf, dOr, dAnd, dNot, dTT, dTB, dUn, dBin, dVar, dC, dRet, dNext, dOrV, dAndV, dNotT, dIfE, isiD, OV.isOwn, startD, List.map_cons, List.map_nil, List.cons_append, List.nil_append, List.append_nil, List.length_cons, List.length_nil, List.replicate, Nat.reduceAdd, Nat.reduceSub, Nat.sub_self, Nat.add_sub_cancel,
  List.getElem?_cons_zero, List.getElem?_cons_succ, bOk, iv_d, iv_n, iv_v, nr_d, nr_n, List.any_cons, List.any_nil, Bool.or_false, Bool.or_true, Bool.false_eq_true, Bool.not_true, Bool.not_false, false_implies, true_and, and_true, if_true, if_false, ite_true, ite_false, forall_const, reduceIte, reduceCtorEq,
  d0_1, dI_1, ad_i, ad_t, ad_l, ng_1, dCa, dCall0, dCons, dNil, dTup, dLst, dEq, dSeq, dRange, dEnum, dRg1, dRg2, dListRg, dTupRg, dSl, dONone, dOSome, dCall, mv_d, mv_n, mv_v, nn_n, nn_b, nn_i, nn_s, nn_l, nn_t, nn_x, nn_d, dSetF, dSetO, dDrop, dFor, dgName, dgTup, dgCons, dgNil, dRetN, dYes, it_1, pm_1, nmR, dXf, dIsE, sq_l, sq_t, sq_x, tr_n, tr_b, tr_i, tr_l, tr_t, tr_x, tr_d, vl_d, vl_n, vl_v, fr_d, fr_o, fr_k, sl_l, sl_t, sl_x, le_1, li_1, tu_1, tu_l, tu_t, tu_x, tx_1, tx_l, tx_t, tx_x, rr_d, rr_n, rr_v, in_1, ix_1, dt_1, isB_1, dCallT, dIdx, dRaise, dAsg, dDnew, List.set_cons_zero, List.set_cons_succ, noOwnAt, List.all_cons, List.all_nil, wipeE, lent, hasOwn, Option.map_some, Option.map_none, dLc, lt_n, pl_n, tyB_n, tyI_n, tyS_n, tyL_n, tyT_n, lt_b, pl_b, tyB_b, tyI_b, tyS_b, tyL_b, tyT_b, lt_i, pl_i, tyB_i, tyI_i, tyS_i, tyL_i, tyT_i, lt_s, pl_s, tyB_s, tyI_s, tyS_s, tyL_s, tyT_s, lt_l, pl_l, tyB_l, tyI_l, tyS_l, tyL_l, tyT_l, lt_t, pl_t, tyB_t, tyI_t, tyS_t, tyL_t, tyT_t, lt_x, pl_x, tyB_x, tyI_x, tyS_x, tyL_x, tyT_x, lt_d, pl_d, tyB_d, tyI_d, tyS_d, tyL_d, tyT_d, noL, noLA, Bool.and_true, Bool.true_and])
local macro_rules | `(tactic| walk_at "e") => `(tactic| first | exact ⟨_, rfl, rfl⟩ | rfl)
abbrev s_ledg : Stmt := top 34
abbrev s_tr : Stmt := top 36
section
variable {P : Program} {w : World} {K : PySem.W.Frag} {mg : Str → Option Value} {base : Heap}
theorem sc_ledg : FnScope ["below", "found", "x", "y"] ["below"] (defScope s_ledg) := ⟨rfl, rfl, rfl, by decide +kernel, rfl, by decide +kernel, by decide +kernel⟩
theorem sc_tr : FnScope ["order", "below", "n", "x", "lower", "y"] ["order", "below"] (defScope s_tr) := ⟨rfl, rfl, rfl, by decide +kernel, rfl, by decide +kernel, by decide +kernel⟩
def wLedg : DW := fun ds Q _ => ∃ (n : Nat) (B : Nat → Nat → Bool), ds = [.lst (rowsD n B)] ∧ n ≤ 24 ∧ Q (.new ((edgesL n (cvB n B)).map cpD))
theorem ok_ledg {f : Addr} {fd : FuncData} (F : Fun K "_law_edges" "_law_edges" s_ledg f fd) (T : Bl mg) (c_law_over : Cal P w K mg base CX0 "_law_over" 1 (spD K wOver)) : FnOk P w K mg base CX0 2 f fd ["below"] (spD K wLedg) := by
  refine okD F sc_ledg (fun ds Q ex h => ?_) (fun cdv A outer s H E hr md F0 a0 => ⟨_, _,
      (dss_cons (ds_setO (i := 1) sc_ledg.nd rfl (Or.inl rfl) (de_lst da_nil))
      (dss_cons (ds_for PassesOwn.never rfl (di_range1 (by rfl) T.n_range (de_callB (klen K) cad_len (by rfl) T.n_len PySem.boot_len (da_cons (de_var (pv 0)) da_nil))) (dg_name (i := 2) sc_ledg.nd rfl (Or.inr rfl))
        (dss_one (ds_expr (de_extend (pv 1) (de_lc (own := [("y", 3)]) rfl sc_ledg.nd (di_seq K (de_call c_law_over (hr.mono (by decide)) (by rfl) (da_cons (de_var (pv 0)) (da_cons (de_var (pv 2)) da_nil)))) (blkOk_by (own := [("y", 3)]) (by show blkC ["below", "found", "x", "y"] (defScope s_ledg) _ _ = true; decide +kernel)) (fun _ _ _ _ _ _ _ _ => (dg_name (i := 3) sc_ledg.nd rfl (Or.inl rfl))) (fun _ _ _ _ _ _ _ _ => dps_nil) (fun _ _ _ _ _ _ _ _ => (de_tup (da_cons (de_var (pv 2)) (da_cons (de_var (pv 3)) da_nil)))) (by decide) s)))))
      (dss_one (ds_ret (de_var (pv 1))))))
      , fun ds Q ex h => ?_⟩)
  · obtain ⟨_, _, rfl, _⟩ := h
    rfl
  · obtain ⟨n, B, rfl, n24, q⟩ := h
    refine sq_go fun S hS => ?_
    walk_at "d"
    refine ⟨by decide, hS _ ?_⟩
    clear hS S
    refine sq_go fun S hS => ?_
    walk_at "d"
    rw [rowsD_len, rgD_n]
    refine ⟨r62_0, r62 (by omega), dFor_rg (fun i ρ => ∃ a, ρ = [some (OV.dat (.lst (rowsD n B))), some (OV.own ((edgesRow (cvB n B) n i).map cpD)), a, none]) ?_ ?_ ⟨_, rfl⟩⟩
    · rintro ρ ⟨a, rfl⟩
      refine hS _ ?_
      walk_at "d"
      exact q
    · rintro i hi D ρ ⟨a, rfl⟩ hD
      unfold dExt isOwnL ownAt
      walk_at "d"
      refine ⟨n, i, B, rfl, n24, hi, ?_⟩
      walk_at "d"
      have hl : (fl n (cvB n B i)).length ≤ n := Nat.le_trans (List.length_filter_le _ _) (by rw [List.length_range]; exact Nat.le_refl _)
      refine dLc_ns (ns := fl n (cvB n B i)) (fun _ => true) (fun y => cpD (i, y)) (by omega) (fun _ _ _ => rfl) (fun y hy T C0 g1 _ => ?_) ?_
      · walk_at "d"
        exact ⟨by decide, g1 rfl _ _ rfl rfl⟩
      · rw [flt_true]
        have h1 := row_len (cvB n B) n i
        have h2 : i * n ≤ 24 * 24 := Nat.mul_le_mul (by omega) n24
        refine ⟨_, rfl, ?_, hD _ ⟨some (OV.dat (.int (i : Int))), ?_⟩⟩
        · rw [List.length_map, List.length_map]
          show _ ≤ 2 ^ 24
          omega
        · rw [edges_row hi, List.map_append, List.map_map]
          rfl
/-- some rows and columns of a square -/
def wPart : DW := fun ds Q _ => ∃ (n : Nat) (B : Nat → Nat → Bool) (ks : List Nat) (kp : D), ds = [.lst (rowsD n B), kp] ∧ seqOfD kp = some (nsD ks) ∧ n ≤ 24 ∧ ks.length ≤ 24 ∧ (∀ k ∈ ks, k < n) ∧ Q (.new (rowsD ks.length (keptB B ks)))
theorem exOk_int {k : Nat} {i : Int} : exOk (k + 1) (.int i) (.int i) := .inl rfl
theorem exOk_bl {k : Nat} {b : Bool} : exOk (k + 1) (.bl b) (.bl b) := .inl rfl
theorem exOk_same {k : Nat} {l : List D} (hz : l.length ≤ 1000) (h : ∀ x ∈ l, exOk k x x) : exOk (k + 1) (.tup l) (.tup l) := by
  refine .inr ⟨l, l, .inl rfl, .inl rfl, rfl, hz, fun i x y hx hy => ?_⟩
  rw [hx] at hy
  cases hy
  exact h x (List.mem_of_getElem? hx)
theorem exOk_st {k : Nat} {l : List Nat} (hz : l.length ≤ 1000) : exOk (k + 2) (stD l) (stD l) := exOk_same (by rw [nsD_len]; exact hz) fun x hx => by
  obtain ⟨i, _, rfl⟩ := List.mem_map.mp hx
  exact exOk_int
theorem exOk_cps {k : Nat} {l : List (Nat × Nat)} (hz : l.length ≤ 1000) : exOk (k + 3) (.tup (l.map cpD)) (.tup (l.map cpD)) := exOk_same (by rw [List.length_map]; exact hz) fun x hx => by
  obtain ⟨z, _, rfl⟩ := List.mem_map.mp hx
  refine exOk_same (by show 2 ≤ 1000; decide) fun y hy => ?_
  rcases List.mem_cons.mp hy with rfl | hy
  · exact exOk_int
  · rcases List.mem_cons.mp hy with rfl | hy
    · exact exOk_int
    · cases hy
def wTR (C : Addr) : DW := fun ds Q _ => ∃ (n : Nat) (B : Nat → Nat → Bool) (rk : Nat → Nat), ds = [ordV C n (sB B), .lst (rowsD n B)] ∧ PO n B rk ∧ Q (.dat (.bl true))
theorem ok_tr {C f : Addr} {fd : FuncData} (F : Fun K "_law_told_right" "_law_told_right" s_tr f fd) (T : Bl mg) (cl : Cls K C) (na : ∀ f ∈ ordNs, NoAttr K C f) (m__len__ : CalM P w K mg base CX0 C "__len__" 1 (spD K (wOLen C))) (m_covers : CalM P w K mg base CX0 C "covers" 1 (spD K (wSt C cvL))) (m_above : CalM P w K mg base CX0 C "above" 1 (spD K (wSt C abL))) (m_below : CalM P w K mg base CX0 C "below" 1 (spD K (wSt C blL))) (m_at_most : CalM P w K mg base CX0 C "at_most" 1 (spD K (wOAm C)))
    (c_law_exact : Cal P w K mg base CX0 "_law_exact" 3 (spD K (wExact 3))) (c_law_over : Cal P w K mg base CX0 "_law_over" 1 (spD K wOver)) (c_law_above : Cal P w K mg base CX0 "_law_above" 1 (spD K wLabv)) (c_law_edges : Cal P w K mg base CX0 "_law_edges" 2 (spD K wLedg)) :
    FnOk P w K mg base CX0 5 f fd ["order", "below"] (spD K (wTR C)) := by
  refine okD F sc_tr (fun ds Q ex h => ?_) (fun cdv A outer s H E hr md F0 a0 => ⟨_, _,
      (dss_cons (ds_setF (i := 2) sc_tr.nd rfl (Or.inl rfl) (de_callB (klen K) cad_len (by rfl) T.n_len PySem.boot_len (da_cons (de_var (pv 1)) da_nil)))
      (dss_cons (ds_if (DWs.ts (dw_or (dt_not (dt_truth K (de_call c_law_exact (hr.mono (by decide)) (by rfl) (da_cons (de_fld K (de_var (pv 0)) rfl) (da_cons (de_var (pv 2)) da_nil))))) (dw_or (dt_cmp (kneD K hr.units) opd_ne (de_callB (call_lenO m__len__ (hr.mono (by decide))) cad_lenO (by rfl) T.n_len PySem.boot_len (da_cons (de_var (pv 0)) da_nil)) (de_var (pv 2)) (nomark _)) (dw_or1 (dt_not (dt_truth K (de_call c_law_exact (hr.mono (by decide)) (by rfl) (da_cons (de_fld K (de_var (pv 0)) rfl) (da_cons (de_callTy (ktuple_of K) cad_tuple (by rfl) T.n_tuple (by decide +kernel) (da_cons (de_call c_law_edges (hr.mono (by decide)) (by rfl) (da_cons (de_var (pv 1)) da_nil)) da_nil)) da_nil)))))))))
        (dss_one (ds_ret de_bl))
        dss_nil)
      (dss_cons (ds_for PassesOwn.never rfl (di_range1 (by rfl) T.n_range (de_var (pv 2))) (dg_name (i := 3) sc_tr.nd rfl (Or.inr rfl))
        (dss_cons (ds_setF (i := 4) sc_tr.nd rfl (Or.inl rfl) (de_callTy (ktuple_of K) cad_tuple (by rfl) T.n_tuple (by decide +kernel) (da_cons (de_lc (own := [("y", 5)]) rfl sc_tr.nd (di_range1 (by rfl) T.n_range (de_var (pv 2))) (blkOk_by (own := [("y", 5)]) (by show blkC ["order", "below", "n", "x", "lower", "y"] (defScope s_tr) _ _ = true; decide +kernel)) (fun _ _ _ _ _ _ _ _ => (dg_name (i := 5) sc_tr.nd rfl (Or.inl rfl))) (fun _ _ _ _ _ _ _ _ => (dps_one (DWs.ts (dw_and (dt_cmp (kneD K hr.units) opd_ne (de_var (pv 5)) (de_var (pv 3)) (nomark _)) (dw_and1 (dt_truth K (de_ix (kix_seq K) opd_ix (de_ix (kix_seq K) opd_ix (de_var (pv 1)) (de_var (pv 5)) (fun _ _ => rfl)) (de_var (pv 3)) (fun _ _ => rfl)))))))) (fun _ _ _ _ _ _ _ _ => (de_var (pv 5))) (by decide) s) da_nil)))
        (dss_cons (ds_if (dt_not (dt_truth K (de_call c_law_exact (hr.mono (by decide)) (by rfl) (da_cons (de_meth m_covers cl (de_var (pv 0)) (hr.mono (by decide)) (da_cons (de_var (pv 3)) da_nil)) (da_cons (de_callTy (ktuple_of K) cad_tuple (by rfl) T.n_tuple (by decide +kernel) (da_cons (de_call c_law_over (hr.mono (by decide)) (by rfl) (da_cons (de_var (pv 1)) (da_cons (de_var (pv 3)) da_nil))) da_nil)) da_nil)))))
          (dss_one (ds_ret de_bl))
          dss_nil)
        (dss_cons (ds_if (DWs.ts (dw_or (dt_not (dt_truth K (de_call c_law_exact (hr.mono (by decide)) (by rfl) (da_cons (de_meth m_above cl (de_var (pv 0)) (hr.mono (by decide)) (da_cons (de_var (pv 3)) da_nil)) (da_cons (de_call c_law_above (hr.mono (by decide)) (by rfl) (da_cons (de_var (pv 1)) (da_cons (de_var (pv 3)) da_nil))) da_nil))))) (dw_or1 (dt_not (dt_truth K (de_call c_law_exact (hr.mono (by decide)) (by rfl) (da_cons (de_meth m_below cl (de_var (pv 0)) (hr.mono (by decide)) (da_cons (de_var (pv 3)) da_nil)) (da_cons (de_var (pv 4)) da_nil))))))))
          (dss_one (ds_ret de_bl))
          dss_nil)
        (dss_one (ds_for PassesOwn.never rfl (di_range1 (by rfl) T.n_range (de_var (pv 2))) (dg_name (i := 5) sc_tr.nd rfl (Or.inl rfl))
          (dss_one (ds_if (dt_not (dt_truth K (de_call c_law_exact (hr.mono (by decide)) (by rfl) (da_cons (de_meth m_at_most cl (de_var (pv 0)) (hr.mono (by decide)) (da_cons (de_var (pv 3)) (da_cons (de_var (pv 5)) da_nil))) (da_cons (de_ix (kix_seq K) opd_ix (de_ix (kix_seq K) opd_ix (de_var (pv 1)) (de_var (pv 3)) (fun _ _ => rfl)) (de_var (pv 5)) (fun _ _ => rfl)) da_nil)))))
            (dss_one (ds_ret de_bl))
            dss_nil))))))))
      (dss_one (ds_ret de_bl)))))
      , fun ds Q ex h => ?_⟩)
  · obtain ⟨_, _, _, rfl, _⟩ := h
    rfl
  · obtain ⟨n, B, rk, rfl, p, q⟩ := h
    have n24 := p.n24
    refine sq_go fun S hS => ?_
    walk_at "d"
    rw [rowsD_len]
    refine hS _ ?_
    clear hS S
    refine sq_go fun S hS => ?_
    walk_at "d"
    refine fldN cl na rfl ?_
    walk_at "d"
    refine ⟨_, _, rfl, exOk_int, ?_⟩
    walk_at "d"
    refine ⟨_, _, n, rfl, by omega, ⟨n, sB B, rfl, fun z => (by cases z), rfl⟩, ?_⟩
    walk_at "d"
    refine ⟨rfl, rfl, ?_⟩
    have enn : eqD (.int (n : Int)) (.int (n : Int)) = true := by rw [eqN]; simp
    refine ite_f (fun z => by rw [show eqD (.int (n : Int)) (.int (n : Int)) = true from enn] at z; cases z) ?_
    refine fldE cl na rfl ?_
    walk_at "d"
    refine ⟨n, B, rfl, n24, ?_⟩
    walk_at "d"
    have few := p.few
    rw [edges_congr fun x y hx hy => p.cov0 hx hy] at few ⊢
    refine ⟨_, _, rfl, exOk_cps (by omega), ?_⟩
    walk_at "d"
    refine hS _ ?_
    clear hS S
    refine sq_go fun S hS => ?_
    walk_at "d"
    rw [rgD_n]
    refine ⟨r62_0, r62 (by omega), dFor_ns (fun ρ => ∃ a b c, (b = none ∨ ∃ d, b = some (OV.dat d)) ∧ (c = none ∨ ∃ d, c = some (OV.dat d)) ∧ ρ = [some (OV.dat (ordV C n (sB B))), some (OV.dat (.lst (rowsD n B))), some (OV.dat (.int (n : Int))), a, b, c]) ?_ ?_ ⟨_, _, _, .inl rfl, .inl rfl, rfl⟩⟩
    · rintro ρ ⟨a, b, c, _, _, rfl⟩
      refine hS _ ?_
      walk_at "d"
      exact q
    rintro x hx D ρ ⟨a, b, c, hb, hc, rfl⟩ hD
    have hx := List.mem_range.mp hx
    have fq : ∀ l : Nat → Bool, (fl n l).length ≤ 24 := fun l => Nat.le_trans (List.length_filter_le _ _) (by rw [List.length_range]; exact n24)
    show dSq _ _ _ _
    refine sq_go fun S2 hS2 => ?_
    have h4 : S2 [some (OV.dat (ordV C n (sB B))), some (OV.dat (.lst (rowsD n B))), some (OV.dat (.int (n : Int))), some (OV.dat (.int (x : Int))), some (OV.dat (stD (blL n (sB B) x))), c] := by
      refine hS2 _ ?_
      clear hS2 S2
      refine sq_go fun S2 hS2 => ?_
      walk_at "d"
      unfold dMeth
      walk_at "d"
      refine ⟨ordNs, _, rfl, by decide +kernel, n, x, sB B, rfl, hx, ?_⟩
      walk_at "d"
      refine ⟨n, x, B, rfl, n24, hx, ?_⟩
      walk_at "d"
      have ecv : stD (cvL n (sB B) x) = .tup (nsD (fl n (cvB n B x))) := by
        unfold stD cvL fl
        rw [flt_congr fun y hy => p.cov0 hx hy]
      rw [ecv]
      refine ⟨_, _, rfl, exOk_st (k := 1) (by have := fq (cvB n B x); omega), ?_⟩
      walk_at "d"
      refine hS2 _ ?_
      clear hS2 S2
      refine sq_go fun S2 hS2 => ?_
      walk_at "d"
      unfold dMeth
      walk_at "d"
      refine ⟨ordNs, _, rfl, by decide +kernel, n, x, sB B, rfl, hx, ?_⟩
      walk_at "d"
      refine ⟨n, x, B, rfl, n24, hx, ?_⟩
      walk_at "d"
      refine ⟨_, _, rfl, exOk_st (k := 1) (by have := fq (sB B x); show (fl n (sB B x)).length ≤ _; omega), ?_⟩
      walk_at "d"
      refine ⟨ordNs, _, rfl, by decide +kernel, n, x, sB B, rfl, hx, ?_⟩
      walk_at "d"
      refine ⟨_, _, rfl, exOk_st (k := 1) (by have := fq (fun z => sB B z x); show (fl n fun z => sB B z x).length ≤ _; omega), ?_⟩
      walk_at "d"
      refine hS2 _ ?_
      clear hS2 S2
      unfold dFor
      walk_at "d"
      rw [rgD_n]
      refine ⟨r62_0, r62 (by omega), dFor_ns (fun ρ => ∃ c, (c = none ∨ ∃ d, c = some (OV.dat d)) ∧ ρ = [some (OV.dat (ordV C n (sB B))), some (OV.dat (.lst (rowsD n B))), some (OV.dat (.int (n : Int))), some (OV.dat (.int (x : Int))), some (OV.dat (stD (blL n (sB B) x))), c]) ?_ ?_ ⟨c, hc, rfl⟩⟩
      · rintro ρ ⟨c, hc, rfl⟩
        exact hD _ ⟨_, _, _, .inr ⟨_, rfl⟩, hc, rfl⟩
      · rintro y hy D2 ρ ⟨c, hc, rfl⟩ hD2
        have hy := List.mem_range.mp hy
        walk_at "d"
        unfold dMeth
        walk_at "d"
        refine ⟨ordNs, _, rfl, by decide +kernel, n, x, y, sB B, rfl, hx, hy, ?_⟩
        walk_at "d"
        refine ⟨_, atRR hx, _, atR hy, ?_⟩
        have e : (x == y || sB B x y) = B x y := by
          by_cases e : x = y
          · subst e
            simp [p.rf x hx]
          · unfold sB
            simp [e, Ne.symm e]
        rw [e]
        refine ⟨_, _, rfl, exOk_bl, ?_⟩
        walk_at "d"
        exact hD2 _ ⟨_, .inr ⟨_, rfl⟩, rfl⟩
    rcases hb with rfl | ⟨d, rfl⟩ <;> rcases hc with rfl | ⟨e, rfl⟩
    all_goals
      walk_at "d"
      rw [rgD_n]
      refine ⟨r62_0, r62 (by omega), ?_⟩
      refine dLc_ns (fun y => sB B y x) nD (by rw [List.length_range]; omega) (fun _ _ e => by cases e) (fun y hy T C0 g1 g2 => ?_) h4
      have hy := List.mem_range.mp hy
      walk_at "d"
      refine ⟨rfl, rfl, ?_⟩
      rw [eqN]
      by_cases c : y = x
      · refine ite_f (by simp [c]) (g2 ?_)
        unfold sB
        simp [c]
      · refine ite_t (by simp [c]) ⟨_, atRR hy, _, atR hx, ?_⟩
        have e1 : sB B y x = B y x := by unfold sB; simp [Ne.symm c]
        cases e : B y x with
        | false => exact g2 (e1.trans e)
        | true => exact g1 (e1.trans e) _ _ rfl rfl
end
end Z

set_option Elab.async false
set_option linter.all false
set_option maxRecDepth 100000
namespace Z
open PySem L2
variable [TabsP]
local macro_rules | `(tactic| walk_at "d") => `(tactic| simp only [dSq, dIf, dOr, dAnd, dNot, dTT, dTB, dUn, dBin, dVar, dC, dRet, dNext, dOrV, dAndV, dNotT, dIfE, isiD, OV.isOwn, startD, List.map_cons, List.map_nil, List.cons_append, List.nil_append, List.append_nil, List.length_cons, List.length_nil, List.replicate, Nat.reduceAdd, Nat.reduceSub, Nat.sub_self, Nat.add_sub_cancel,
  List.getElem?_cons_zero, List.getElem?_cons_succ, bOk, iv_d, iv_n, iv_v, nr_d, nr_n, List.any_cons, List.any_nil, Bool.or_false, Bool.or_true, Bool.false_eq_true, Bool.not_true, Bool.not_false, false_implies, true_and, and_true, if_true, if_false, ite_true, ite_false, forall_const, reduceIte, reduceCtorEq,
  d0_1, dI_1, ad_i, ad_t, ad_l, ng_1, dCa, dCall0, dCons, dNil, dTup, dLst, dEq, dSeq, dRange, dEnum, dRg1, dRg2, dListRg, dTupRg, dSl, dONone, dOSome, dCall, mv_d, mv_n, mv_v, nn_n, nn_b, nn_i, nn_s, nn_l, nn_t, nn_x, nn_d, dSetF, dSetO, dDrop, dFor, dgName, dgTup, dgCons, dgNil, dRetN, dYes, it_1, pm_1, nmR, dXf, dIsE, sq_l, sq_t, sq_x, tr_n, tr_b, tr_i, tr_l, tr_t, tr_x, tr_d, vl_d, vl_n, vl_v, fr_d, fr_o, fr_k, sl_l, sl_t, sl_x, le_1, li_1, tu_1, tu_l, tu_t, tu_x, tx_1, tx_l, tx_t, tx_x, rr_d, rr_n, rr_v, in_1, ix_1, dt_1, isB_1, dCallT, dIdx, dRaise, dAsg, dDnew, List.set_cons_zero, List.set_cons_succ, noOwnAt, List.all_cons, List.all_nil, wipeE, lent, hasOwn, Option.map_some, Option.map_none, dLc, lt_n, pl_n, tyB_n, tyI_n, tyS_n, tyL_n, tyT_n, lt_b, pl_b, tyB_b, tyI_b, tyS_b, tyL_b, tyT_b, lt_i, pl_i, tyB_i, tyI_i, tyS_i, tyL_i, tyT_i, lt_s, pl_s, tyB_s, tyI_s, tyS_s, tyL_s, tyT_s, lt_l, pl_l, tyB_l, tyI_l, tyS_l, tyL_l, tyT_l, lt_t, pl_t, tyB_t, tyI_t, tyS_t, tyL_t, tyT_t, lt_x, pl_x, tyB_x, tyI_x, tyS_x, tyL_x, tyT_x, lt_d, pl_d, tyB_d, tyI_d, tyS_d, tyL_d, tyT_d, noL, noLA, Bool.and_true, Bool.true_and])
local macro_rules | `(tactic| walk_at "e") => `(tactic| first | exact ⟨_, rfl, rfl⟩ | rfl)
abbrev s_wr : Stmt := top 39
abbrev s_rfs : Stmt := top 40
abbrev s_smp : Stmt := top 41
section
variable {P : Program} {w : World} {K : PySem.W.Frag} {mg : Str → Option Value} {base : Heap}
theorem sc_wr : FnScope ["hand", "low", "high"] ["hand", "low", "high"] (defScope s_wr) := ⟨rfl, rfl, rfl, by decide +kernel, rfl, by decide +kernel, by decide +kernel⟩
theorem sc_rfs : FnScope ["kind", "one", "other", "raised", "plain"] ["kind", "one", "other"] (defScope s_rfs) := ⟨rfl, rfl, rfl, by decide +kernel, rfl, by decide +kernel, by decide +kernel⟩
theorem sc_smp : FnScope ["hand", "n", "chain", "flat", "wrong", "kind", "x", "y"] ["hand"] (defScope s_smp) := ⟨rfl, rfl, rfl, by decide +kernel, rfl, by decide +kernel, by decide +kernel⟩
theorem log2_small {i : Int} (h0 : 0 ≤ i) (h1 : i ≤ 1000) : i.natAbs.log2 < 1920 := by
  by_cases hz : i.natAbs = 0
  · rw [hz]
    decide
  · rw [Nat.log2_lt hz]
    exact Nat.lt_of_lt_of_le (by omega : i.natAbs < 2 ^ 10) (Nat.pow_le_pow_right (by decide) (by decide))
def wWr : DW := fun ds Q _ => ∃ lo hi : Int, ds = [.hnd, .int lo, .int hi] ∧ 0 ≤ lo ∧ lo ≤ hi ∧ hi ≤ 1000 ∧ ∀ d, plainD d = true → wholeD d (some lo) (some hi) = false → Q (.dat d)
theorem ok_wr {f : Addr} {fd : FuncData} (F : Fun K "_law_wrong" "_law_wrong" s_wr f fd) (T : Bl mg) (c_law_draw : Cal P w K mg base CX0 "_law_draw" 2 (spD K wDraw)) : FnOk P w K mg base CX0 3 f fd ["hand", "low", "high"] (spD K wWr) := by
  refine okD F sc_wr (fun ds Q ex h => ?_) (fun cdv A outer s H E hr md F0 a0 => ⟨_, _,
      (dss_one (ds_ret (de_ix (kix_seq K) opd_ix (de_lst (da_cons (de_op op_sub opd_I0 (de_var (pv 1)) de_int) (da_cons (de_op (op_addA K) opd_add (de_var (pv 2)) de_int) (da_cons de_non (da_cons de_bl (da_cons (de_callTy kstrI cad_strI (by rfl) T.n_str (by decide +kernel) (da_cons (de_var (pv 2)) da_nil)) (da_cons (de_lst (da_cons (de_var (pv 2)) da_nil)) (da_cons (de_op (op_addA K) opd_add (de_var (pv 2)) (de_op op_pow opd_I de_int de_int)) (da_cons de_bl da_nil))))))))) (de_call c_law_draw (hr.mono (by decide)) (by rfl) (da_cons (de_var (pv 0)) (da_cons de_int da_nil))) (fun _ _ => rfl))))
      , fun ds Q ex h => ?_⟩)
  · obtain ⟨_, _, rfl, _⟩ := h
    rfl
  · obtain ⟨lo, hi, rfl, l0, lh, h1, q⟩ := h
    walk_at "d"
    refine ⟨hi, rfl, log2_small (by omega) h1, by decide, ⟨by decide, by decide, by decide⟩, by decide, rfl, 8, rfl, by decide, by decide, fun d d0 d8 => ?_⟩
    have c : d = 0 ∨ d = 1 ∨ d = 2 ∨ d = 3 ∨ d = 4 ∨ d = 5 ∨ d = 6 ∨ d = 7 := by omega
    rcases c with rfl | rfl | rfl | rfl | rfl | rfl | rfl | rfl
    · exact ⟨_, rfl, (fun z => by cases z), q _ rfl (by simp [wholeD]; omega)⟩
    · exact ⟨_, rfl, (fun z => by cases z), q _ rfl (by simp [wholeD]; omega)⟩
    · exact ⟨_, rfl, (fun z => by cases z), q _ rfl rfl⟩
    · exact ⟨_, rfl, (fun z => by cases z), q _ rfl rfl⟩
    · exact ⟨_, rfl, (fun z => by cases z), q _ rfl rfl⟩
    · exact ⟨_, rfl, (fun z => by cases z), q _ rfl rfl⟩
    · exact ⟨_, rfl, (fun z => by cases z), q _ rfl (by simp [wholeD]; omega)⟩
    · exact ⟨_, rfl, (fun z => by cases z), q _ rfl rfl⟩
/-- a call that is refused so -/
def RefB (C bm : Addr) (kind : Str) (one other : D) (what : Str) (k : Nat) : Prop :=
  (kind = "chain" ∧ ∀ (Q' : R → Prop) (ex' : EXD), ex' bm (bmA what k) → wMk1 C bm chB [one] Q' ex') ∨ (kind = "flat" ∧ ∀ (Q' : R → Prop) (ex' : EXD), ex' bm (bmA what k) → wMk1 C bm flB [one] Q' ex') ∨
  (kind = "facts" ∧ ∀ (Q' : R → Prop) (ex' : EXD), ex' bm (bmA what k) → wFo C bm [one, other] Q' ex') ∨ (kind = "words" ∧ ∀ (Q' : R → Prop) (ex' : EXD), ex' bm (bmA what k) → wWd C bm [one, other] Q' ex')
structure RfV (K : PySem.W.Frag) (bm bo fe : Addr) : Prop where
  x : PySem.W.exmOne K (.ref bm) (.ref bm) = some true
  f : XfC K bm
  ow : PySem.W.findIn K (.ref bm) "what" = some none
  oa : PySem.W.findIn K (.ref bm) "at" = some none
  i : IsC K bm
  k1 : PySem.W.kitOne K (.ref bm) (.ref fe) = some true
  k2 : PySem.W.kitOne K (.ref bm) (.type "ValueError") = some true
  k3 : PySem.W.kitOne K (.ref bm) (.ref bo) = some false
def wRfs (C bm : Addr) : DW := fun ds Q _ => ∃ (kind : Str) (one other : D) (what : Str) (k : Nat), ds = [.str kind, one, other] ∧ RefB C bm kind one other what k ∧ Q (.dat (.tup [.str what, nD k]))
theorem ok_rfs {C bm bo fe f : Addr} {fd : FuncData} (F : Fun K "_law_refusal" "_law_refusal" s_rfs f fd) (T : Bl mg) (V : RfV K bm bo fe) (gbm : mg "BadMake" = some (.ref bm)) (gbo : mg "BadOrder" = some (.ref bo)) (gfe : mg "FrameError" = some (.ref fe)) (nve : mg "ValueError" = none)
    (cchain_order : Cal P w K mg base (L2.CX P w) "chain_order" 6 (spD K (wMk1 C bm chB))) (cflat_order : Cal P w K mg base (L2.CX P w) "flat_order" 6 (spD K (wMk1 C bm flB))) (cfacts_order : Cal P w K mg base (L2.CX P w) "facts_order" 6 (spD K (wFo C bm))) (cwords_order : Cal P w K mg base (L2.CX P w) "words_order" 6 (spD K (wWd C bm))) :
    FnOk P w K mg base CX0 9 f fd ["kind", "one", "other"] (spD K (wRfs C bm)) := by
  refine okD F sc_rfs (fun ds Q ex h => ?_) (fun cdv A outer s H E hr md F0 a0 => ⟨_, _,
      (dss_cons (ds_try rfl rfl sc_rfs.nd takesF lxtF (fun F0 H0 a0 W pn xe tk exE lx =>
        (dss_one (ds_if (dt_cmp (keqD K hr.units) opd_eq (de_var (pv 0)) de_str (nomark _))
          (dss_one (ds_expr (de_callT cchain_order.v (hr.mono (by decide)) (by rfl) tk lx (fun _ => .nil) (da_cons (de_var (pv 1)) da_nil))))
          (dss_one (ds_if (dt_cmp (keqD K hr.units) opd_eq (de_var (pv 0)) de_str (nomark _))
            (dss_one (ds_expr (de_callT cflat_order.v (hr.mono (by decide)) (by rfl) tk lx (fun _ => .nil) (da_cons (de_var (pv 1)) da_nil))))
            (dss_one (ds_if (dt_cmp (keqD K hr.units) opd_eq (de_var (pv 0)) de_str (nomark _))
              (dss_one (ds_expr (de_callT cfacts_order.v (hr.mono (by decide)) (by rfl) tk lx (fun _ => .nil) (da_cons (de_var (pv 1)) (da_cons (de_var (pv 2)) da_nil)))))
              (dss_one (ds_expr (de_callT cwords_order.v (hr.mono (by decide)) (by rfl) tk lx (fun _ => .nil) (da_cons (de_var (pv 1)) (da_cons (de_var (pv 2)) da_nil))))))))))))
        (.cons ⟨(by rfl), (by decide), .inl gbm⟩ (o := some 3) ⟨rfl, rfl⟩ (fun F0 H0 a0 a oe cls d pn hz hf =>
          (dss_cons (ds_setF (i := 4) sc_rfs.nd rfl (Or.inl rfl) (de_and (de_isE V.i hz hf (by rfl) T.n_isinstance (de_var (pv 3)) (pe_glob (v := .ref fe) (by rfl) gfe rfl) (.own fe)) (de_and (de_isE V.i hz hf (by rfl) T.n_isinstance (de_var (pv 3)) (pe_bltn (v := .ty "ValueError") (u := .type "ValueError") (by rfl) nve (by decide +kernel) rfl) (.ty _)) (de_one (de_notT K (de_isE V.i hz hf (by rfl) T.n_isinstance (de_var (pv 3)) (pe_glob (v := .ref bo) (by rfl) gbo rfl) (.own bo)))))))
          (dss_one (ds_ret (de_ifExp (dt_truth K (de_var (pv 4))) (de_tup (da_cons (de_xf V.f V.ow hz hf (de_var (pv 3))) (da_cons (de_xf V.f V.oa hz hf (de_var (pv 3))) da_nil))) (de_tup (da_cons de_str (da_cons de_int da_nil))))))))
        .nil))
      (dss_one (ds_ret de_non)))
      , fun ds Q ex h => ?_⟩)
  · obtain ⟨_, _, _, _, _, rfl, _⟩ := h
    rfl
  · obtain ⟨kind, one, other, what, k, rfl, h, q⟩ := h
    refine sq_go fun S hS => ?_
    refine dTry_go rfl (fun X => ∀ ρ : En, ρ = [some (OV.dat (.str kind)), some (OV.dat one), some (OV.dat other), none, none] → X bm (bmA what k) ρ) ?_ fun X hX => ?_
    · rintro ρ rfl
      refine ⟨true, V.x, fun _ => ⟨rfl, fun F1 H1 a1 a d xf => ?_⟩, fun h => by cases h⟩
      refine sq_go fun S2 hS2 => ?_
      walk_at "d"
      refine ⟨bmA what k, true, by simp [bmA], xf, V.k1, ?_⟩
      walk_at "d"
      refine ⟨bmA what k, true, by simp [bmA], xf, V.k2, ?_⟩
      walk_at "d"
      refine ⟨bmA what k, false, by simp [bmA], xf, V.k3, ?_⟩
      walk_at "d"
      refine hS2 _ ?_
      walk_at "d"
      exact ⟨bmA what k, .str what, by simp [bmA], xf, rfl, bmA what k, .int (k : Int), by simp [bmA], xf, rfl, by decide, q⟩
    · have hX := hX _ rfl
      rcases h with ⟨rfl, h⟩ | ⟨rfl, h⟩ | ⟨rfl, h⟩ | ⟨rfl, h⟩
      · walk_at "d"
        refine ⟨by decide +kernel, by decide +kernel, ite_t (by decide +kernel) ?_⟩
        exact h _ _ hX
      · walk_at "d"
        refine ⟨by decide +kernel, by decide +kernel, ite_f (by decide +kernel) ⟨by decide +kernel, by decide +kernel, ite_t (by decide +kernel) ?_⟩⟩
        exact h _ _ hX
      · walk_at "d"
        refine ⟨by decide +kernel, by decide +kernel, ite_f (by decide +kernel) ⟨by decide +kernel, by decide +kernel, ite_f (by decide +kernel) ⟨by decide +kernel, by decide +kernel, ite_t (by decide +kernel) ?_⟩⟩⟩
        exact h _ _ hX
      · walk_at "d"
        refine ⟨by decide +kernel, by decide +kernel, ite_f (by decide +kernel) ⟨by decide +kernel, by decide +kernel, ite_f (by decide +kernel) ⟨by decide +kernel, by decide +kernel, ite_f (by decide +kernel) ?_⟩⟩⟩
        exact h _ _ hX
/-- a test of the law that always holds -/
def wHT : DW := fun ds Q _ => ds = [.hnd] ∧ Q (.dat (.bl true))
/-- what is told of a refusal, looked at -/
theorem ex_ref {what : Str} {k : Nat} {Q : R → Prop} (h : PyData.strOk what = true) (q : Q (.dat (.bl true))) : wExact 3 [.tup [.str what, nD k], .tup [.str what, nD k]] Q exF := by
  refine ⟨_, _, rfl, ?_, q⟩
  rw [exOk_s]
  refine .inr ⟨_, _, .inl rfl, .inl rfl, rfl, by simp, fun i x y e1 e2 => ?_⟩
  rw [e1] at e2
  cases e2
  rw [exOk_s]
  refine .inl ?_
  rcases i with _ | _ | i
  · cases e1
    exact ⟨rfl, h⟩
  · cases e1
    rfl
  · simp at e1
theorem wMk1_no {C bm : Addr} {M : Nat → Nat → Bool} {d : D} {Q' : R → Prop} {ex' : EXD} (pd : plainD d = true) (wf : wholeD d (some 1) (some 24) = false) (h : ex' bm (bmA "states" 0)) : wMk1 C bm M [d] Q' ex' := by
  refine ⟨d, rfl, pd, fun n e n1 n24 => ?_, fun _ => h⟩
  subst e
  rw [show wholeD (.int (n : Int)) (some 1) (some 24) = true by simp [wholeD]; omega] at wf
  cases wf
theorem ok_smp {C bm f : Addr} {fd : FuncData} (F : Fun K "_law_simple" "_law_simple" s_smp f fd) (T : Bl mg) (c_law_draw : Cal P w K mg base CX0 "_law_draw" 2 (spD K wDraw)) (c_law_wrong : Cal P w K mg base CX0 "_law_wrong" 3 (spD K wWr)) (c_law_refusal : Cal P w K mg base CX0 "_law_refusal" 9 (spD K (wRfs C bm)))
    (c_law_exact : Cal P w K mg base CX0 "_law_exact" 3 (spD K (wExact 3))) (c_law_told_right : Cal P w K mg base CX0 "_law_told_right" 5 (spD K (wTR C))) (cchain_order : Cal P w K mg base (L2.CX P w) "chain_order" 6 (spD K (wMk1 C bm chB))) (cflat_order : Cal P w K mg base (L2.CX P w) "flat_order" 6 (spD K (wMk1 C bm flB))) :
    FnOk P w K mg base CX0 10 f fd ["hand"] (spD K wHT) := by
  refine okD F sc_smp (fun ds Q ex h => ?_) (fun cdv A outer s H E hr md F0 a0 => ⟨_, _,
      (dss_cons (ds_setF (i := 1) sc_smp.nd rfl (Or.inr rfl) (de_op (op_addA K) opd_add de_int (de_call c_law_draw (hr.mono (by decide)) (by rfl) (da_cons (de_var (pv 0)) (da_cons de_int da_nil)))))
      (dss_cons (ds_lcF (i := 2) (own := [("x", 6)]) rfl sc_smp.nd rfl rfl (sw_true rfl rfl rfl (by decide +kernel)) (di_range1 (by rfl) T.n_range (de_var (pv 1))) (blkOk_by (own := [("x", 6)]) (by show blkC ["hand", "n", "chain", "flat", "wrong", "kind", "x", "y"] (defScope s_smp) _ _ = true; decide +kernel)) (fun _ _ _ _ _ _ _ _ => (dg_name (i := 6) sc_smp.nd rfl (Or.inr rfl))) (fun _ _ _ _ _ _ _ _ => dps_nil) (fun _ _ _ _ _ _ _ _ => (de_lc (own := [("y", 7)]) rfl sc_smp.nd (di_range1 (by rfl) T.n_range (de_var (pv 1))) (blkOk_by (own := [("y", 7)]) (by show blkC ["hand", "n", "chain", "flat", "wrong", "kind", "x", "y"] (relS _ (defScope s_smp)) _ _ = true; decide +kernel)) (fun _ _ _ _ _ _ _ _ => (dg_name (i := 7) sc_smp.nd rfl (Or.inl rfl))) (fun _ _ _ _ _ _ _ _ => dps_nil) (fun _ _ _ _ _ _ _ _ => (de_cmp op_le opd_B0 (de_var (pv 6)) (de_var (pv 7)) (nomark _))) (by decide) s)) (by decide) s)
      (dss_cons (ds_lcF (i := 3) (own := [("x", 6)]) rfl sc_smp.nd rfl rfl (sw_true rfl rfl rfl (by decide +kernel)) (di_range1 (by rfl) T.n_range (de_var (pv 1))) (blkOk_by (own := [("x", 6)]) (by show blkC ["hand", "n", "chain", "flat", "wrong", "kind", "x", "y"] (defScope s_smp) _ _ = true; decide +kernel)) (fun _ _ _ _ _ _ _ _ => (dg_name (i := 6) sc_smp.nd rfl (Or.inr rfl))) (fun _ _ _ _ _ _ _ _ => dps_nil) (fun _ _ _ _ _ _ _ _ => (de_lc (own := [("y", 7)]) rfl sc_smp.nd (di_range1 (by rfl) T.n_range (de_var (pv 1))) (blkOk_by (own := [("y", 7)]) (by show blkC ["hand", "n", "chain", "flat", "wrong", "kind", "x", "y"] (relS _ (defScope s_smp)) _ _ = true; decide +kernel)) (fun _ _ _ _ _ _ _ _ => (dg_name (i := 7) sc_smp.nd rfl (Or.inl rfl))) (fun _ _ _ _ _ _ _ _ => dps_nil) (fun _ _ _ _ _ _ _ _ => (de_or (de_cmp (keqD K hr.units) opd_eq (de_var (pv 6)) (de_var (pv 7)) (nomark _)) (de_one (de_cmp (keqD K hr.units) opd_eq (de_var (pv 6)) de_int (nomark _))))) (by decide) s)) (by decide) s)
      (dss_cons (ds_if (DWs.ts (dw_or (dt_not (dt_truth K (de_call c_law_told_right (hr.mono (by decide)) (by rfl) (da_cons (de_callT cchain_order.v (hr.mono (by decide)) (by rfl) takesF lxtF (fun _ => .nil) (da_cons (de_var (pv 1)) da_nil)) (da_cons (de_var (pv 2)) da_nil))))) (dw_or1 (dt_not (dt_truth K (de_call c_law_told_right (hr.mono (by decide)) (by rfl) (da_cons (de_callT cflat_order.v (hr.mono (by decide)) (by rfl) takesF lxtF (fun _ => .nil) (da_cons (de_var (pv 1)) da_nil)) (da_cons (de_var (pv 3)) da_nil))))))))
        (dss_one (ds_ret de_bl))
        dss_nil)
      (dss_cons (ds_setF (i := 4) sc_smp.nd rfl (Or.inl rfl) (de_call c_law_wrong (hr.mono (by decide)) (by rfl) (da_cons (de_var (pv 0)) (da_cons de_int (da_cons de_int da_nil)))))
      (dss_cons (ds_setF (i := 5) sc_smp.nd rfl (Or.inl rfl) (de_ix (kix_seq K) opd_ix (de_lst (da_cons de_str (da_cons de_str da_nil))) (de_call c_law_draw (hr.mono (by decide)) (by rfl) (da_cons (de_var (pv 0)) (da_cons de_int da_nil))) (fun _ _ => rfl)))
      (dss_one (ds_ret (de_call c_law_exact (hr.mono (by decide)) (by rfl) (da_cons (de_call c_law_refusal (hr.mono (by decide)) (by rfl) (da_cons (de_var (pv 5)) (da_cons (de_var (pv 4)) (da_cons de_non da_nil)))) (da_cons (de_tup (da_cons de_str (da_cons de_int da_nil))) da_nil)))))))))))
      , fun ds Q ex h => ?_⟩)
  · obtain ⟨rfl, _⟩ := h
    rfl
  · obtain ⟨rfl, q⟩ := h
    refine sq_go fun S hS => ?_
    walk_at "d"
    refine ⟨24, rfl, by decide, by decide, fun d d0 d24 => ?_⟩
    obtain ⟨n, en, n1, n24⟩ : ∃ n : Nat, 1 + d = (n : Int) ∧ 1 ≤ n ∧ n ≤ 24 := ⟨(1 + d).toNat, by omega, by omega, by omega⟩
    walk_at "d"
    rw [en]
    refine hS _ ?_
    clear hS S
    have rg : rgD 0 (n : Int) = nsD (List.range n) := rgD_n n
    refine sq_go fun S hS => ?_
    walk_at "d"
    rw [rg]
    refine ⟨r62_0, r62 (by omega), dLc_ns (fun _ => true) (fun x => .lst (rowD n (chB x))) (by rw [List.length_range]; omega) (fun _ _ e => by cases e) (fun x hx U C0 g1 _ => ?_) ?_⟩
    · walk_at "d"
      rw [rg]
      refine ⟨r62_0, r62 (by omega), dLc_ns (fun _ => true) (fun y => .bl (chB x y)) (by rw [List.length_range]; omega) (fun _ _ e => by cases e) (fun y hy T2 C1 k1 _ => ?_) ?_⟩
      · walk_at "d"
        refine k1 rfl _ _ rfl (congrArg D.bl (bool_ext ?_))
        unfold chB
        rw [decide_eq_true_eq, decide_eq_true_eq]
        omega
      · rw [flt_true]
        exact g1 rfl _ _ rfl rfl
    · rw [flt_true]
      refine hS _ ?_
      clear hS S
      refine sq_go fun S hS => ?_
      walk_at "d"
      rw [rg]
      refine ⟨r62_0, r62 (by omega), dLc_ns (fun _ => true) (fun x => .lst (rowD n (flB x))) (by rw [List.length_range]; omega) (fun _ _ e => by cases e) (fun x hx U C0 g1 _ => ?_) ?_⟩
      · walk_at "d"
        rw [rg]
        refine ⟨r62_0, r62 (by omega), dLc_ns (fun _ => true) (fun y => .bl (flB x y)) (by rw [List.length_range]; omega) (fun _ _ e => by cases e) (fun y hy T2 C1 k1 _ => ?_) ?_⟩
        · walk_at "d"
          refine ⟨rfl, rfl, ?_⟩
          rw [show D.int 0 = .int ((0 : Nat) : Int) from rfl, eqN, eqN]
          by_cases c : x = y
          · exact ite_t (by simp [c]) (k1 rfl _ _ rfl (by simp [flB, c, vl]))
          · exact ite_f (by simp [c]) ⟨rfl, rfl, k1 rfl _ _ rfl (congrArg D.bl (by simp [flB, c, BEq.beq]))⟩
        · rw [flt_true]
          exact g1 rfl _ _ rfl rfl
      · rw [flt_true]
        refine hS _ ?_
        clear hS S
        refine sq_go fun S hS => ?_
        walk_at "d"
        have inv : ∀ m : Nat, D.int (n : Int) = .int (m : Int) → n = m := fun m e => by have := D.int.inj e; omega
        have wh : wholeD (.int (n : Int)) (some 1) (some 24) = true := by simp [wholeD]; omega
        refine ⟨_, rfl, rfl, fun m e m1 m24 => ?_, fun z => by rw [wh] at z; cases z⟩
        obtain rfl := inv m e
        refine ⟨n, chB, id, rfl, po_ch n1 n24, ?_⟩
        walk_at "d"
        refine ⟨_, rfl, rfl, fun m e m1 m24 => ?_, fun z => by rw [wh] at z; cases z⟩
        obtain rfl := inv m e
        refine ⟨n, flB, id, rfl, po_fl n1 n24, ?_⟩
        walk_at "d"
        refine hS _ ?_
        clear hS S
        refine sq_go fun S hS => ?_
        walk_at "d"
        refine ⟨1, 24, rfl, by decide, by decide, by decide, fun wd pd wf => ?_⟩
        walk_at "d"
        refine hS _ ?_
        clear hS S
        have fin : ∀ kind : Str, (kind = "chain" ∨ kind = "flat") → RefB C bm kind wd .non "states" 0 := fun kind hk => by
          rcases hk with rfl | rfl
          · exact .inl ⟨rfl, fun Q' ex' h => wMk1_no pd wf h⟩
          · exact .inr (.inl ⟨rfl, fun Q' ex' h => wMk1_no pd wf h⟩)
        refine sq_go fun S hS => ?_
        walk_at "d"
        refine ⟨by decide, 2, rfl, by decide, by decide, fun d d0 d2 => ?_⟩
        have c : d = 0 ∨ d = 1 := by omega
        rcases c with rfl | rfl
        · refine ⟨_, rfl, (fun z => by cases z), hS _ ?_⟩
          clear hS S
          walk_at "d"
          refine ⟨_, _, _, _, _, rfl, fin _ (.inl rfl), ?_⟩
          walk_at "d"
          exact ⟨by decide, ex_ref (by decide +kernel) q⟩
        · refine ⟨_, rfl, (fun z => by cases z), hS _ ?_⟩
          clear hS S
          walk_at "d"
          refine ⟨_, _, _, _, _, rfl, fin _ (.inr rfl), ?_⟩
          walk_at "d"
          exact ⟨by decide, ex_ref (by decide +kernel) q⟩
end
end Z

set_option Elab.async false
set_option linter.all false
set_option maxRecDepth 100000
namespace Z
open PySem L2
variable [TabsP]
open LamX
local macro_rules | `(tactic| walk_at "d") => `(tactic| simp only [dSq, dIf, dOr, dAnd, dNot, dTT, dTB, dUn, dBin, dVar, dC, dRet, dNext, dOrV, dAndV, dNotT, dIfE, isiD, OV.isOwn, startD, List.map_cons, List.map_nil, List.cons_append, List.nil_append, List.append_nil, List.length_cons, List.length_nil, List.replicate, Nat.reduceAdd, Nat.reduceSub, Nat.sub_self, Nat.add_sub_cancel,
  List.getElem?_cons_zero, List.getElem?_cons_succ, bOk, iv_d, iv_n, iv_v, nr_d, nr_n, List.any_cons, List.any_nil, Bool.or_false, Bool.or_true, Bool.false_eq_true, Bool.not_true, Bool.not_false, false_implies, true_and, and_true, if_true, if_false, ite_true, ite_false, forall_const, reduceIte, reduceCtorEq,
  d0_1, dI_1, ad_i, ad_t, ad_l, ng_1, dCa, dCall0, dCons, dNil, dTup, dLst, dEq, dSeq, dRange, dEnum, dRg1, dRg2, dListRg, dTupRg, dSl, dONone, dOSome, dCall, mv_d, mv_n, mv_v, nn_n, nn_b, nn_i, nn_s, nn_l, nn_t, nn_x, nn_d, dSetF, dSetO, dDrop, dFor, dgName, dgTup, dgCons, dgNil, dRetN, dYes, it_1, pm_1, nmR, dXf, dIsE, sq_l, sq_t, sq_x, tr_n, tr_b, tr_i, tr_l, tr_t, tr_x, tr_d, vl_d, vl_n, vl_v, fr_d, fr_o, fr_k, sl_l, sl_t, sl_x, le_1, li_1, tu_1, tu_l, tu_t, tu_x, tx_1, tx_l, tx_t, tx_x, rr_d, rr_n, rr_v, in_1, ix_1, dt_1, isB_1, dCallT, dIdx, dRaise, dAsg, dDnew, List.set_cons_zero, List.set_cons_succ, noOwnAt, List.all_cons, List.all_nil, wipeE, lent, hasOwn, Option.map_some, Option.map_none, dLc, lt_n, pl_n, tyB_n, tyI_n, tyS_n, tyL_n, tyT_n, lt_b, pl_b, tyB_b, tyI_b, tyS_b, tyL_b, tyT_b, lt_i, pl_i, tyB_i, tyI_i, tyS_i, tyL_i, tyT_i, lt_s, pl_s, tyB_s, tyI_s, tyS_s, tyL_s, tyT_s, lt_l, pl_l, tyB_l, tyI_l, tyS_l, tyL_l, tyT_l, lt_t, pl_t, tyB_t, tyI_t, tyS_t, tyL_t, tyT_t, lt_x, pl_x, tyB_x, tyI_x, tyS_x, tyL_x, tyT_x, lt_d, pl_d, tyB_d, tyI_d, tyS_d, tyL_d, tyT_d, noL, noLA, Bool.and_true, Bool.true_and])
local macro_rules | `(tactic| walk_at "e") => `(tactic| first | exact ⟨_, rfl, rfl⟩ | rfl)
abbrev s_lset : Stmt := top 42
section
variable {P : Program} {w : World} {K : PySem.W.Frag} {mg : Str → Option Value} {base : Heap}
theorem sc_lset : FnScope ["facts", "rules", "found", "bits", "members", "f", "rule"] ["facts", "rules"] (defScope s_lset) := ⟨rfl, rfl, rfl, by decide +kernel, rfl, by decide +kernel, by decide +kernel⟩
def wLset : DW := fun ds Q _ => ∃ (F : Nat) (rs : List (Nat × Nat)), ds = [.int (F : Int), .lst (rs.map cpD)] ∧ F ≤ 8 ∧ rs.length ≤ 64 ∧ Q (.new ((sortN (keptL F rs)).map stD))
def bitsL (F : Nat) (rs : List (Nat × Nat)) (i : Nat) : List (List Nat) := ((List.range i).map (bitL F)).filter (keepR rs)
theorem bitsL_s (F : Nat) (rs : List (Nat × Nat)) (i : Nat) : bitsL F rs (i + 1) = bitsL F rs i ++ (if keepR rs (bitL F i) = true then [bitL F i] else []) := by
  unfold bitsL
  rw [List.range_succ, List.map_append, List.filter_append, List.map_cons, List.map_nil, List.filter_cons, List.filter_nil]
theorem bitsL_le (F : Nat) (rs : List (Nat × Nat)) (i : Nat) : (bitsL F rs i).length ≤ i := by
  unfold bitsL
  refine Nat.le_trans (List.length_filter_le _ _) ?_
  rw [List.length_map, List.length_range]
  exact Nat.le_refl _
theorem bitL_le (F b : Nat) : (bitL F b).length ≤ F := by
  unfold bitL
  refine Nat.le_trans (List.length_filter_le _ _) ?_
  rw [List.length_range]
  exact Nat.le_refl _
theorem ok_lset {f c PT : Addr} {fd : FuncData} (F : Fun K "_law_sets" "_law_sets" s_lset f fd) (hc : fd.code = .ref c) (TB : TabB base mg c PT) (hmT : (PT, ("_law_sets.<locals>.<lambda>" : Str)) ∈ TabsP.T) (hu : ∀ p ∈ TabsP.T, p.1 = PT → p.2 = ("_law_sets.<locals>.<lambda>" : Str))
    (T : Bl mg) (n_sorted : mg "sorted" = none) : FnOk P w K mg base CX0 5 f fd ["facts", "rules"] (spD K wLset) := by
  refine okDC F hc sc_lset (fun ds Q ex h => ?_) (fun A outer s H E hr md F0 a0 => ⟨_, _,
      (dss_cons (ds_setO (i := 2) sc_lset.nd rfl (Or.inl rfl) (de_lst da_nil))
      (dss_cons (ds_for PassesOwn.never rfl (di_range1 (by rfl) T.n_range (de_op op_shl opd_I de_int (de_var (pv 0)))) (dg_name (i := 3) sc_lset.nd rfl (Or.inr rfl))
        (dss_cons (ds_setF (i := 4) sc_lset.nd rfl (Or.inr rfl) (de_callTy (ktuple_of K) cad_tuple (by rfl) T.n_tuple (by decide +kernel) (da_cons (de_lc (own := [("f", 5)]) rfl sc_lset.nd (di_range1 (by rfl) T.n_range (de_var (pv 0))) (blkOk_by (own := [("f", 5)]) (by show blkC ["facts", "rules", "found", "bits", "members", "f", "rule"] (defScope s_lset) _ _ = true; decide +kernel)) (fun _ _ _ _ _ _ _ _ => (dg_name (i := 5) sc_lset.nd rfl (Or.inl rfl))) (fun _ _ _ _ _ _ _ _ => (dps_one (dt_truth K (de_op op_odd' opd_odd (de_op op_shr opd_I (de_var (pv 3)) (de_var (pv 5))) de_int)))) (fun _ _ _ _ _ _ _ _ => (de_var (pv 5))) (by decide) s) da_nil)))
        (dss_one (ds_if (dt_not (dt_truth K (de_lc (own := [("rule", 6)]) rfl sc_lset.nd (di_seq K (de_var (pv 1))) (blkOk_by (own := [("rule", 6)]) (by show blkC ["facts", "rules", "found", "bits", "members", "f", "rule"] (defScope s_lset) _ _ = true; decide +kernel)) (fun _ _ _ _ _ _ _ _ => (dg_name (i := 6) sc_lset.nd rfl (Or.inl rfl))) (fun _ _ _ _ _ _ _ _ => (dps_one (DWs.ts (dw_and (dt_cmp (kin_seq K) opd_in (de_ix (kix_seq K) opd_ix (de_var (pv 6)) de_int (fun _ _ => rfl)) (de_var (pv 4)) (by rfl)) (dw_and1 (dt_cmp (knotin_seq K) opd_in (de_ix (kix_seq K) opd_ix (de_var (pv 6)) de_int (fun _ _ => rfl)) (de_var (pv 4)) (by rfl))))))) (fun _ _ _ _ _ _ _ _ => (de_var (pv 6))) (by decide) s)))
          (dss_one (ds_expr (de_append (pv 2) (de_var (pv 4)))))
          dss_nil))))
      (dss_one (ds_ret (de_sortL (k := 0) (by rfl) n_sorted (de_give (pv 2)) (lam1_by (sc := defScope s_lset) (by decide +kernel)) (hr.mono (by decide)) TB rfl hmT hu rfl (fun _ _ _ _ _ _ => rfl) (fun A outer s H f c' hr F0 H0 a0 => (de_tup (da_cons (de_callB (klen K) cad_len (by rfl) T.n_len PySem.boot_len (da_cons (de_var (pv 7)) da_nil)) (da_cons (de_var (pv 7)) da_nil)))))))))
      , fun ds Q ex h => ?_⟩)
  · obtain ⟨_, _, rfl, _⟩ := h
    rfl
  · obtain ⟨n, rs, rfl, n8, lr, q⟩ := h
    have p8 := pow8 n8
    refine sq_go fun S hS => ?_
    walk_at "d"
    refine ⟨by decide, hS _ ?_⟩
    clear hS S
    refine sq_go fun S hS => ?_
    walk_at "d"
    have e2 : (1 : Int) * 2 ^ (n : Int).toNat = ((2 ^ n : Nat) : Int) := by simp
    rw [e2, rgD_n]
    refine ⟨⟨by omega, by omega, by decide⟩, r62_0, r62 (by omega), dFor_rg (fun i ρ => i ≤ 2 ^ n ∧ ∃ a b : Option D, ρ = [some (OV.dat (.int (n : Int))), some (OV.dat (.lst (rs.map cpD))), some (OV.own ((bitsL n rs i).map stD)), a.map OV.dat, b.map OV.dat, none, none]) ?_ ?_ ⟨Nat.zero_le _, none, none, rfl⟩⟩
    · rintro ρ ⟨_, a, b, rfl⟩
      refine hS _ ?_
      clear hS S
      rw [show bitsL n rs (2 ^ n) = keptL n rs by unfold bitsL keptL; rw [bits_subs]]
      walk_at "d"
      unfold dSortL dGive
      walk_at "d"
      refine ⟨by cases a <;> cases b <;> rfl, _, (keptL n rs).map lkD, rfl, ⟨by rw [List.length_map, List.length_map], fun i d k ed ek => ?_⟩, keys_ok _, by rw [sortBy_st]; exact q⟩
      rw [List.getElem?_map] at ed ek
      obtain ⟨s, e1, rfl⟩ := Option.map_eq_some_iff.mp ed
      obtain ⟨s', e2, rfl⟩ := Option.map_eq_some_iff.mp ek
      rw [e1] at e2
      cases e2
      walk_at "d"
      show 2 ≤ sizeLine ∧ R.dat (.tup [.int ((nsD s).length : Int), stD s]) = R.dat (lkD s)
      rw [nsD_len]
      exact ⟨by decide, rfl⟩
    · rintro i hi C ρ ⟨_, a, b, rfl⟩ hC
      show dSq _ _ _ _
      refine sq_go fun S hS => ?_
      walk_at "d"
      rw [rgD_n]
      refine ⟨r62_0, r62 (by omega), dLc_ns (fun f => decide (i / 2 ^ f % 2 = 1)) nD (by rw [List.length_range]; omega) (fun _ _ _ => rfl) (fun f hf U C0 g1 g2 => ?_) ?_⟩
      · walk_at "d"
        refine ⟨by omega, i / 2 ^ f, congrArg D.int (by simp), rfl, ?_⟩
        walk_at "d"
        by_cases c : i / 2 ^ f % 2 = 1
        · refine ite_t (by rw [c]; rfl) (g1 (by simp [c]) _ _ rfl rfl)
        · refine ite_f (by rw [show i / 2 ^ f % 2 = 0 by omega]; decide) (g2 (by simp [c]))
      · rw [show ((List.range n).filter fun f => decide (i / 2 ^ f % 2 = 1)).map nD = nsD (bitL n i) from rfl]
        refine hS _ ?_
        clear hS S
        have bl := bitsL_le n rs i
        walk_at "d"
        refine dLc_gA cpD (fun r => decide (r.1 ∈ bitL n i) && !decide (r.2 ∈ bitL n i)) cpD rs [] (by rw [List.length_nil]; omega) (fun r _ _ => rfl) (fun r hr' U C0 g1 g2 => ?_) ?_
        · unfold cpD nD
          walk_at "d"
          refine ⟨_, rfl, rfl, flatA_ns _, ?_⟩
          by_cases c1 : r.1 ∈ bitL n i
          · refine ite_t (show inD (.int (r.1 : Int)) (nsD (bitL n i)) = true by rw [in_ns]; simp [c1]) ⟨_, rfl, rfl, flatA_ns _, ?_⟩
            by_cases c2 : r.2 ∈ bitL n i
            · exact ite_f (show ¬ (!inD (.int (r.2 : Int)) (nsD (bitL n i))) = true by rw [in_ns]; simp [c2]) (g2 (by simp [c2]))
            · exact ite_t (show (!inD (.int (r.2 : Int)) (nsD (bitL n i))) = true by rw [in_ns]; simp [c2]) (g1 (by simp [c1, c2]) _ _ rfl rfl)
          · exact ite_f (show ¬ inD (.int (r.1 : Int)) (nsD (bitL n i)) = true by rw [in_ns]; simp [c1]) (g2 (by simp [c1]))
        · rw [List.nil_append]
          have ek : (!!(List.map cpD (rs.filter fun r => decide (r.1 ∈ bitL n i) && !decide (r.2 ∈ bitL n i))).isEmpty) = keepR rs (bitL n i) := by
            refine bool_ext ?_
            unfold keepR
            simp
            exact ⟨fun h a b m => Decidable.not_or_of_imp (h a b m), fun h a b m ha => (h a b m).resolve_left (fun z => z ha)⟩
          have hC := fun kr => hC [some (OV.dat (.int (n : Int))), some (OV.dat (.lst (rs.map cpD))), some (OV.own ((bitsL n rs (i + 1)).map stD)), some (OV.dat (.int (i : Int))), some (OV.dat (.tup (nsD (bitL n i)))), none, none] kr
          have hC := hC ⟨hi, some (.int (i : Int)), some (.tup (nsD (bitL n i))), rfl⟩
          rw [bitsL_s] at hC
          by_cases kr : keepR rs (bitL n i) = true
          · rw [if_pos kr, List.map_append] at hC
            refine ite_t (by rw [ek]; exact kr) ?_
            unfold dApp isOwnL ownAt
            walk_at "d"
            exact ⟨by rw [List.length_map]; unfold sizeLine; omega, hC⟩
          · rw [if_neg kr, List.append_nil] at hC
            exact ite_f (by rw [ek]; exact kr) hC
end
end Z

set_option Elab.async false
set_option linter.all false
set_option maxRecDepth 100000
namespace Z
open PySem L2
variable [TabsP]
local macro_rules | `(tactic| walk_at "d") => `(tactic| simp only [dSq, dIf, dOr, dAnd, dNot, dTT, dTB, dUn, dBin, dVar, dC, dRet, dNext, dOrV, dAndV, dNotT, dIfE, isiD, OV.isOwn, startD, List.map_cons, List.map_nil, List.cons_append, List.nil_append, List.append_nil, List.length_cons, List.length_nil, List.replicate, Nat.reduceAdd, Nat.reduceSub, Nat.sub_self, Nat.add_sub_cancel,
  List.getElem?_cons_zero, List.getElem?_cons_succ, bOk, iv_d, iv_n, iv_v, nr_d, nr_n, List.any_cons, List.any_nil, Bool.or_false, Bool.or_true, Bool.false_eq_true, Bool.not_true, Bool.not_false, false_implies, true_and, and_true, if_true, if_false, ite_true, ite_false, forall_const, reduceIte, reduceCtorEq,
  d0_1, dI_1, ad_i, ad_t, ad_l, ng_1, dCa, dCall0, dCons, dNil, dTup, dLst, dEq, dSeq, dRange, dEnum, dRg1, dRg2, dListRg, dTupRg, dSl, dONone, dOSome, dCall, mv_d, mv_n, mv_v, nn_n, nn_b, nn_i, nn_s, nn_l, nn_t, nn_x, nn_d, dSetF, dSetO, dDrop, dFor, dgName, dgTup, dgCons, dgNil, dRetN, dYes, it_1, pm_1, nmR, dXf, dIsE, sq_l, sq_t, sq_x, tr_n, tr_b, tr_i, tr_l, tr_t, tr_x, tr_d, vl_d, vl_n, vl_v, fr_d, fr_o, fr_k, sl_l, sl_t, sl_x, le_1, li_1, tu_1, tu_l, tu_t, tu_x, tx_1, tx_l, tx_t, tx_x, rr_d, rr_n, rr_v, in_1, ix_1, dt_1, isB_1, dCallT, dIdx, dRaise, dAsg, dDnew, List.set_cons_zero, List.set_cons_succ, noOwnAt, List.all_cons, List.all_nil, wipeE, lent, hasOwn, Option.map_some, Option.map_none, dLc, lt_n, pl_n, tyB_n, tyI_n, tyS_n, tyL_n, tyT_n, lt_b, pl_b, tyB_b, tyI_b, tyS_b, tyL_b, tyT_b, lt_i, pl_i, tyB_i, tyI_i, tyS_i, tyL_i, tyT_i, lt_s, pl_s, tyB_s, tyI_s, tyS_s, tyL_s, tyT_s, lt_l, pl_l, tyB_l, tyI_l, tyS_l, tyL_l, tyT_l, lt_t, pl_t, tyB_t, tyI_t, tyS_t, tyL_t, tyT_t, lt_x, pl_x, tyB_x, tyI_x, tyS_x, tyL_x, tyT_x, lt_d, pl_d, tyB_d, tyI_d, tyS_d, tyL_d, tyT_d, noL, noLA, Bool.and_true, Bool.true_and])
local macro_rules | `(tactic| walk_at "e") => `(tactic| first | exact ⟨_, rfl, rfl⟩ | rfl)
abbrev s_lf : Stmt := top 43
section
variable {P : Program} {w : World} {K : PySem.W.Frag} {mg : Str → Option Value} {base : Heap}
theorem sc_lf : FnScope ["hand", "facts", "many", "rules", "sets", "passed", "kept", "below", "order", "told", "k", "rule", "one", "other", "f"] ["hand"] (defScope s_lf) := ⟨rfl, rfl, rfl, by decide +kernel, rfl, by decide +kernel, by decide +kernel⟩
/-- a rule as it is passed -/
def RuP (z : Nat × Nat) (e : D) : Prop := e = .lst [nD z.1, nD z.2] ∨ e = .tup [nD z.1, nD z.2]
theorem RuP.pr {z : Nat × Nat} {e : D} (h : RuP z e) : prD e = z := by
  rcases h with rfl | rfl <;> simp [prD, dcD, seqOfD, nD]
theorem RuP.cp {F : Nat} {z : Nat × Nat} {e : D} (h : RuP z e) (h1 : z.1 < F) (h2 : z.2 < F) : CpD F e := by
  rcases h with rfl | rfl <;> exact ⟨z.1, z.2, rfl, h1, h2⟩
theorem cps_of {Q : Nat × Nat → Prop} : ∀ {es : List D}, (∀ e ∈ es, ∃ r : Nat × Nat, e = cpD r ∧ Q r) → ∃ rs : List (Nat × Nat), es = rs.map cpD ∧ ∀ r ∈ rs, Q r
  | [], _ => ⟨[], rfl, fun _ h => by cases h⟩
  | e :: es, h => by
    obtain ⟨r, rfl, q⟩ := h e (by simp)
    obtain ⟨rs, rfl, qs⟩ := cps_of (es := es) fun x hx => h x (List.mem_cons_of_mem _ hx)
    refine ⟨r :: rs, rfl, fun z hz => ?_⟩
    rcases List.mem_cons.mp hz with rfl | hz
    · exact q
    · exact qs z hz
theorem cf_ok {F : Nat} {r : D} {xs : List D} (h8 : F ≤ 8) (hs : seqOfD r = some xs) (lx : xs.length ≤ 64) (cp : ∀ x ∈ xs, CpD F x) : cfO (.int (F : Int)) r = none := by
  unfold cfO
  rw [if_pos (by simp [wholeD]; omega)]
  show cfR F r = none
  unfold cfR
  rw [hs]
  show (if 64 < xs.length then _ else _) = none
  rw [if_neg (by omega)]
  have : ∀ (l : List D) (k : Nat), (∀ x ∈ l, CpD F x) → badAt F k l = none := fun l => by
    induction l with
    | nil => intro k _; rfl
    | cons x l ih =>
      intro k h
      unfold badAt
      rw [(h x (by simp)).pl.2, if_pos rfl]
      exact ih _ fun y hy => h y (by simp [hy])
  rw [this xs 0 cp]
  rfl
theorem plR_cp {F : Nat} {r : D} {xs : List D} (hs : seqOfD r = some xs) (cp : ∀ x ∈ xs, CpD F x) : PlR r := by
  refine ⟨(by cases r <;> first | rfl | cases hs), fun ys e x hx => ?_⟩
  rw [hs] at e
  cases e
  exact (cp x hx).pl.1
theorem wFo_of {C bm : Addr} {F : Nat} {r : D} {xs : List D} {Q : R → Prop} {ex : EXD} (h8 : F ≤ 8) (hs : seqOfD r = some xs) (lx : xs.length ≤ 64) (cp : ∀ x ∈ xs, CpD F x) (h1 : 24 < (factY F xs).length → ex bm (bmA "many" 0))
    (h2 : (factY F xs).length ≤ 24 → Q (.dat (.tup [ordV C (factY F xs).length (sB (inB (factY F xs))), .tup ((factY F xs).map stD)]))) : wFo C bm [.int (F : Int), r] Q ex := by
  refine ⟨_, _, rfl, rfl, plR_cp hs cp, fun what k e => ?_, fun G ys e1 _ e2 _ _ => ?_⟩
  · rw [cf_ok h8 hs lx cp] at e
    cases e
  · obtain rfl : F = G := by have := D.int.inj e1; omega
    rw [hs] at e2
    cases e2
    exact ⟨h1, h2⟩
theorem pydA_of : ∀ {l : List D}, (∀ d ∈ l, pyd d = true) → pydA l = true
  | [], _ => rfl
  | d :: l, h => by
    show (pyd d && pydA l) = true
    rw [h d (by simp), pydA_of fun x hx => h x (by simp [hx])]
    rfl
theorem RuP.sh {z : Nat × Nat} {e : D} (h : RuP z e) (h1 : z.1 < 9) (h2 : z.2 < 9) : pyd e = true ∧ Sh 1 3849 (toPy e) := by
  have a := sh_two (sh_small (i := (z.1 : Int)) (by omega) (by omega)) (sh_small (i := (z.2 : Int)) (by omega) (by omega))
  rcases h with rfl | rfl
  · exact ⟨rfl, sh_list a⟩
  · exact ⟨rfl, sh_tuple a⟩
theorem sh_rules {es : List D} (h : ∀ e ∈ es, pyd e = true ∧ Sh 1 3849 (toPy e)) (l : es.length ≤ 64) : pydA es = true ∧ Sh 8 sizeLine (toPy (.lst es)) := by
  refine ⟨pydA_of fun d hd => (h d hd).1, ?_⟩
  show Sh 8 sizeLine (.list (toPyA es))
  have e : toPyA es = es.map toPy := by
    have := toPyA_map (fun d : D => d) es
    rwa [List.map_id'] at this
  rw [e]
  refine (sh_list (n := 1) (k := 3849) fun d hd => ?_).mono (by decide) ?_
  · obtain ⟨x, hx, rfl⟩ := List.mem_map.mp hd
    exact (h x hx).2
  · rw [List.length_map]
    unfold sizeLine
    omega
theorem ex_rows3 {Y : List (List Nat)} {Q : R → Prop} (h : Y.length ≤ 24) (hl : ∀ s ∈ Y, s.length ≤ 24) (q : Q (.dat (.bl true))) : wExact 3 [.tup (Y.map stD), .tup (Y.map stD)] Q exF := by
  refine ⟨_, _, rfl, ?_, q⟩
  rw [exOk_s]
  refine .inr ⟨_, _, .inl rfl, .inl rfl, rfl, by rw [List.length_map]; omega, fun i x y e1 e2 => ?_⟩
  rw [e1] at e2
  cases e2
  rw [List.getElem?_map] at e1
  obtain ⟨s, e3, rfl⟩ := Option.map_eq_some_iff.mp e1
  have := hl s (List.mem_of_getElem? e3)
  rw [exOk_s]
  refine .inr ⟨_, _, .inl rfl, .inl rfl, rfl, by rw [nsD_len]; omega, fun i x y e1 e2 => ?_⟩
  rw [e1] at e2
  cases e2
  unfold nsD at e1
  rw [List.getElem?_map] at e1
  obtain ⟨m, e3, rfl⟩ := Option.map_eq_some_iff.mp e1
  rw [exOk_s]
  exact .inl rfl
theorem rows_ix (Y : List (List Nat)) : Y.map stD = (List.range Y.length).map fun i => stD (Y.getD i []) := by
  refine List.ext_getElem? fun i => ?_
  rw [List.getElem?_map, List.getElem?_map]
  by_cases h : i < Y.length
  · rw [List.getElem?_eq_getElem h, List.getElem?_range h, Option.map_some, Option.map_some, getD_eq h]
  · rw [List.getElem?_eq_none (by omega), List.getElem?_eq_none (by rw [List.length_range]; omega)]
    rfl
theorem ok_lf {C bm f : Addr} {fd : FuncData} (F : Fun K "_law_facts" "_law_facts" s_lf f fd) (T : Bl mg) (c_law_draw : Cal P w K mg base CX0 "_law_draw" 2 (spD K wDraw)) (c_law_seq : Cal P w K mg base CX0 "_law_seq" 3 (spD K wSeqd)) (c_law_sets : Cal P w K mg base CX0 "_law_sets" 5 (spD K wLset)) (c_law_refusal : Cal P w K mg base CX0 "_law_refusal" 9 (spD K (wRfs C bm)))
    (c_law_exact : Cal P w K mg base CX0 "_law_exact" 3 (spD K (wExact 3))) (c_law_told_right : Cal P w K mg base CX0 "_law_told_right" 5 (spD K (wTR C))) (cfacts_order : Cal P w K mg base (L2.CX P w) "facts_order" 6 (spD K (wFo C bm))) :
    FnOkG P w K mg base 10 f fd ["hand"] (spD K wHT) := by
  refine okDG F sc_lf (fun ds Q ex h => ?_) (fun cdv A outer s H E hr gd md F0 a0 => ⟨_, _,
      (dss_cons (ds_setF (i := 1) sc_lf.nd rfl (Or.inr rfl) (de_ix (kix_seq K) opd_ix (de_lst (da_cons de_int (da_cons de_int (da_cons de_int (da_cons de_int (da_cons de_int (da_cons de_int (da_cons de_int (da_cons de_int da_nil))))))))) (de_call c_law_draw (hr.mono (by decide)) (by rfl) (da_cons (de_var (pv 0)) (da_cons de_int da_nil))) (fun _ _ => rfl)))
      (dss_cons (ds_setF (i := 2) sc_lf.nd rfl (Or.inl rfl) (de_ifExp (dt_cmp op_lt opd_B0 (de_var (pv 1)) de_int (nomark _)) (de_call c_law_draw (hr.mono (by decide)) (by rfl) (da_cons (de_var (pv 0)) (da_cons de_int da_nil))) (de_op (op_addA K) opd_add de_int (de_call c_law_draw (hr.mono (by decide)) (by rfl) (da_cons (de_var (pv 0)) (da_cons de_int da_nil))))))
      (dss_cons (ds_lcF (i := 3) (own := [("k", 10)]) rfl sc_lf.nd rfl rfl (sw_true rfl rfl rfl (by decide +kernel)) (di_range1 (by rfl) T.n_range (de_ifExp (dt_truth K (de_var (pv 1))) (de_var (pv 2)) de_int)) (blkOk_by (own := [("k", 10)]) (by show blkC ["hand", "facts", "many", "rules", "sets", "passed", "kept", "below", "order", "told", "k", "rule", "one", "other", "f"] (defScope s_lf) _ _ = true; decide +kernel)) (fun _ _ _ _ _ _ _ _ => (dg_name (i := 10) sc_lf.nd rfl (Or.inl rfl))) (fun _ _ _ _ _ _ _ _ => dps_nil) (fun _ _ _ _ _ _ _ _ => (de_tup (da_cons (de_call c_law_draw (hr.mono (by decide)) (by rfl) (da_cons (de_var (pv 0)) (da_cons (de_var (pv 1)) da_nil))) (da_cons (de_call c_law_draw (hr.mono (by decide)) (by rfl) (da_cons (de_var (pv 0)) (da_cons (de_var (pv 1)) da_nil))) da_nil)))) (by decide) s)
      (dss_cons (ds_if (DWs.ts (dw_and (dt_cmp (keqD K hr.units) opd_eq (de_var (pv 1)) de_int (nomark _)) (dw_and1 (dt_cmp op_gt opd_B0 (de_call c_law_draw (hr.mono (by decide)) (by rfl) (da_cons (de_var (pv 0)) (da_cons de_int da_nil))) de_int (nomark _)))))
        (dss_one (ds_setF (i := 3) sc_lf.nd rfl (Or.inl rfl) (de_op (op_addA K) opd_add (de_var (pv 3)) (de_lc (own := [("f", 14)]) rfl sc_lf.nd (di_range1 (by rfl) T.n_range de_int) (blkOk_by (own := [("f", 14)]) (by show blkC ["hand", "facts", "many", "rules", "sets", "passed", "kept", "below", "order", "told", "k", "rule", "one", "other", "f"] (defScope s_lf) _ _ = true; decide +kernel)) (fun _ _ _ _ _ _ _ _ => (dg_name (i := 14) sc_lf.nd rfl (Or.inl rfl))) (fun _ _ _ _ _ _ _ _ => dps_nil) (fun _ _ _ _ _ _ _ _ => (de_tup (da_cons (de_op (op_addA K) opd_add (de_var (pv 14)) de_int) (da_cons (de_var (pv 14)) da_nil)))) (by decide) s))))
        dss_nil)
      (dss_cons (ds_setF (i := 4) sc_lf.nd rfl (Or.inr rfl) (de_call c_law_sets (hr.mono (by decide)) (by rfl) (da_cons (de_var (pv 1)) (da_cons (de_var (pv 3)) da_nil))))
      (dss_cons (ds_lcF (i := 5) (own := [("rule", 11)]) rfl sc_lf.nd rfl rfl (sw_true rfl rfl rfl (by decide +kernel)) (di_seq K (de_var (pv 3))) (blkOk_by (own := [("rule", 11)]) (by show blkC ["hand", "facts", "many", "rules", "sets", "passed", "kept", "below", "order", "told", "k", "rule", "one", "other", "f"] (defScope s_lf) _ _ = true; decide +kernel)) (fun _ _ _ _ _ _ _ _ => (dg_name (i := 11) sc_lf.nd rfl (Or.inl rfl))) (fun _ _ _ _ _ _ _ _ => dps_nil) (fun _ _ _ _ _ _ _ _ => (de_call c_law_seq (hr.mono (by decide)) (by rfl) (da_cons (de_var (pv 0)) (da_cons (de_var (pv 11)) da_nil)))) (by decide) s)
      (dss_cons (ds_setF (i := 6) sc_lf.nd rfl (Or.inl rfl) (de_callB (call_reprD K gd (units64 hr)) cad_repr (by rfl) T.n_repr (by decide +kernel) (da_cons (de_var (pv 5)) da_nil)))
      (dss_cons (ds_if (dt_cmp op_gt opd_B0 (de_callB (klen K) cad_len (by rfl) T.n_len PySem.boot_len (da_cons (de_var (pv 4)) da_nil)) de_int (nomark _))
        (dss_one (ds_ret (de_and (de_call c_law_exact (hr.mono (by decide)) (by rfl) (da_cons (de_call c_law_refusal (hr.mono (by decide)) (by rfl) (da_cons de_str (da_cons (de_var (pv 1)) (da_cons (de_var (pv 5)) da_nil)))) (da_cons (de_tup (da_cons de_str (da_cons de_int da_nil))) da_nil))) (de_one (de_cmp op_eq opd_eqS (de_callB (call_reprD K gd (units64 hr)) cad_repr (by rfl) T.n_repr (by decide +kernel) (da_cons (de_var (pv 5)) da_nil)) (de_var (pv 6)) (nomark _))))))
        dss_nil)
      (dss_cons (ds_asg (de_callT cfacts_order.v (hr.mono (by decide)) (by rfl) takesF lxtF (fun _ => .nil) (da_cons (de_var (pv 1)) (da_cons (de_var (pv 5)) da_nil))) (dg_tup K (n := 2) rfl (dgs_cons (dg_name (i := 8) sc_lf.nd rfl (Or.inl rfl)) (dgs_cons (dg_name (i := 9) sc_lf.nd rfl (Or.inl rfl)) dgs_nil))))
      (dss_cons (ds_lcF (i := 7) (own := [("one", 12)]) rfl sc_lf.nd rfl rfl (sw_true rfl rfl rfl (by decide +kernel)) (di_seq K (de_var (pv 4))) (blkOk_by (own := [("one", 12)]) (by show blkC ["hand", "facts", "many", "rules", "sets", "passed", "kept", "below", "order", "told", "k", "rule", "one", "other", "f"] (defScope s_lf) _ _ = true; decide +kernel)) (fun _ _ _ _ _ _ _ _ => (dg_name (i := 12) sc_lf.nd rfl (Or.inr rfl))) (fun _ _ _ _ _ _ _ _ => dps_nil) (fun _ _ _ _ _ _ _ _ => (de_lc (own := [("other", 13)]) rfl sc_lf.nd (di_seq K (de_var (pv 4))) (blkOk_by (own := [("other", 13)]) (by show blkC ["hand", "facts", "many", "rules", "sets", "passed", "kept", "below", "order", "told", "k", "rule", "one", "other", "f"] (relS _ (defScope s_lf)) _ _ = true; decide +kernel)) (fun _ _ _ _ _ _ _ _ => (dg_name (i := 13) sc_lf.nd rfl (Or.inr rfl))) (fun _ _ _ _ _ _ _ _ => dps_nil) (fun _ _ _ _ _ _ _ _ => (de_notT K (de_lc (own := [("f", 14)]) rfl sc_lf.nd (di_seq K (de_var (pv 12))) (blkOk_by (own := [("f", 14)]) (by show blkC ["hand", "facts", "many", "rules", "sets", "passed", "kept", "below", "order", "told", "k", "rule", "one", "other", "f"] (relS _ (relS _ (defScope s_lf))) _ _ = true; decide +kernel)) (fun _ _ _ _ _ _ _ _ => (dg_name (i := 14) sc_lf.nd rfl (Or.inl rfl))) (fun _ _ _ _ _ _ _ _ => (dps_one (dt_cmp (knotin_seq K) opd_in (de_var (pv 14)) (de_var (pv 13)) (by rfl)))) (fun _ _ _ _ _ _ _ _ => (de_var (pv 14))) (by decide) s))) (by decide) s)) (by decide) s)
      (dss_one (ds_ret (de_and (de_call c_law_told_right (hr.mono (by decide)) (by rfl) (da_cons (de_var (pv 8)) (da_cons (de_var (pv 7)) da_nil))) (de_and (de_call c_law_exact (hr.mono (by decide)) (by rfl) (da_cons (de_var (pv 9)) (da_cons (de_callTy (ktuple_of K) cad_tuple (by rfl) T.n_tuple (by decide +kernel) (da_cons (de_var (pv 4)) da_nil)) da_nil))) (de_one (de_cmp op_eq opd_eqS (de_callB (call_reprD K gd (units64 hr)) cad_repr (by rfl) T.n_repr (by decide +kernel) (da_cons (de_var (pv 5)) da_nil)) (de_var (pv 6)) (nomark _)))))))))))))))))
      , fun ds Q ex h => ?_⟩)
  · obtain ⟨rfl, _⟩ := h
    rfl
  · obtain ⟨rfl, q⟩ := h
    refine sq_go fun S hS => ?_
    refine (fun S1 : ∀ F : Nat, F ≤ 8 → S [some (OV.dat .hnd), some (OV.dat (.int (F : Int))), none, none, none, none, none, none, none, none, none, none, none, none, none] => ?_) (fun F hF => hS _ ?_)
    · walk_at "d"
      refine ⟨by decide, 8, rfl, by decide, by decide, fun d d0 d8 => ?_⟩
      have c : d = 0 ∨ d = 1 ∨ d = 2 ∨ d = 3 ∨ d = 4 ∨ d = 5 ∨ d = 6 ∨ d = 7 := by omega
      rcases c with rfl | rfl | rfl | rfl | rfl | rfl | rfl | rfl
      · exact ⟨_, rfl, (fun z => by cases z), S1 0 (by decide)⟩
      · exact ⟨_, rfl, (fun z => by cases z), S1 1 (by decide)⟩
      · exact ⟨_, rfl, (fun z => by cases z), S1 2 (by decide)⟩
      · exact ⟨_, rfl, (fun z => by cases z), S1 3 (by decide)⟩
      · exact ⟨_, rfl, (fun z => by cases z), S1 3 (by decide)⟩
      · exact ⟨_, rfl, (fun z => by cases z), S1 4 (by decide)⟩
      · exact ⟨_, rfl, (fun z => by cases z), S1 5 (by decide)⟩
      · exact ⟨_, rfl, (fun z => by cases z), S1 8 (by decide)⟩
    · clear hS S
      refine sq_go fun S hS => ?_
      refine (fun S1 : ∀ M : Nat, M ≤ 12 → S [some (OV.dat .hnd), some (OV.dat (.int (F : Int))), some (OV.dat (.int (M : Int))), none, none, none, none, none, none, none, none, none, none, none, none] => ?_) (fun M hM => hS _ ?_)
      · walk_at "d"
        refine ite_b ⟨4, rfl, by decide, by decide, fun d d0 d4 => ?_⟩ ⟨8, rfl, by decide, by decide, fun d d0 d8 => ?_⟩
        · obtain ⟨m, rfl⟩ : ∃ m : Nat, d = (m : Int) := ⟨d.toNat, by omega⟩
          exact S1 m (by omega)
        · obtain ⟨m, rfl⟩ : ∃ m : Nat, d = (m : Int) := ⟨d.toNat, by omega⟩
          walk_at "d"
          rw [show (5 : Int) + (m : Int) = ((5 + m : Nat) : Int) by omega]
          exact S1 (5 + m) (by omega)
      · clear hS S
        refine sq_go fun S hS => ?_
        refine (fun S1 : ∀ rs : List (Nat × Nat), rs.length ≤ 12 → (∀ r ∈ rs, r.1 < F ∧ r.2 < F) → S [some (OV.dat .hnd), some (OV.dat (.int (F : Int))), some (OV.dat (.int (M : Int))), some (OV.dat (.lst (rs.map cpD))), none, none, none, none, none, none, none, none, none, none, none] => ?_) (fun rs lr ar => hS _ ?_)
        · walk_at "d"
          by_cases f0 : F = 0
          · subst f0
            exact ite_f (by decide) ⟨r62_0, r62_0, S1 [] (by simp) (by simp)⟩
          · refine ite_t (by simp [f0]) ⟨r62_0, r62 (by omega), ?_⟩
            rw [rgD_n]
            refine dLc_rel (fun _ e => ∃ r : Nat × Nat, e = cpD r ∧ r.1 < F ∧ r.2 < F) (by rw [nsD_len, List.length_range]; unfold sizeLine; omega) (fun _ _ _ _ e => by cases e) (fun d hd U C0 g1 => ?_) (fun es a2 => ?_)
            · walk_at "d"
              refine ⟨F, rfl, by omega, by omega, fun d1 x0 x1 => ?_⟩
              refine ⟨F, rfl, by omega, by omega, fun d2 y0 y1 => ?_⟩
              obtain ⟨x, rfl⟩ : ∃ m : Nat, d1 = (m : Int) := ⟨d1.toNat, by omega⟩
              obtain ⟨y, rfl⟩ : ∃ m : Nat, d2 = (m : Int) := ⟨d2.toNat, by omega⟩
              walk_at "d"
              exact ⟨by decide, g1 _ _ _ rfl rfl ⟨(x, y), rfl, by simpa using x1, by simpa using y1⟩⟩
            · obtain ⟨rs, rfl, hrs⟩ := cps_of fun e he => (a2.mem e he).elim fun _ h => h.2
              have := a2.len
              rw [List.length_map, nsD_len, List.length_range] at this
              exact S1 rs (by omega) hrs
        · clear hS S
          refine sq_go fun S hS => ?_
          refine (fun S1 : ∀ rs : List (Nat × Nat), rs.length ≤ 17 → (∀ r ∈ rs, r.1 < F ∧ r.2 < F) → S [some (OV.dat .hnd), some (OV.dat (.int (F : Int))), some (OV.dat (.int (M : Int))), some (OV.dat (.lst (rs.map cpD))), none, none, none, none, none, none, none, none, none, none, none] => ?_) (fun rs lr ar => hS _ ?_)
          · have S0 := S1 rs (by omega) ar
            walk_at "d"
            refine ⟨rfl, rfl, ?_⟩
            rw [show D.int 8 = .int ((8 : Nat) : Int) from rfl, eqN]
            by_cases f8 : F = 8
            · subst f8
              refine ite_t (by decide) ⟨3, rfl, by decide, by decide, fun d d0 d3 => ?_⟩
              walk_at "d"
              refine ite_b ⟨r62_0, ⟨by decide, by decide⟩, ?_⟩ S0
              rw [show rgD 0 5 = nsD (List.range 5) from rgD_n 5]
              refine dLc_ns (fun _ => true) (fun f => cpD (f + 1, f)) (by decide) (fun _ _ e => by cases e) (fun f hf U C0 g1 _ => ?_) ?_
              · walk_at "d"
                exact ⟨by decide, g1 rfl _ _ rfl rfl⟩
              · rw [flt_true, show (List.range 5).map (fun f => cpD (f + 1, f)) = ((List.range 5).map fun f => (f + 1, f)).map cpD from rfl, ← List.map_append]
                refine ⟨by rw [List.length_map, List.length_map, List.length_map]; unfold sizeLine; simp; omega, S1 _ (by simp; omega) fun r hr => ?_⟩
                rcases List.mem_append.mp hr with hr | hr
                · exact ar r hr
                · obtain ⟨f, hf, rfl⟩ := List.mem_map.mp hr
                  have hf := List.mem_range.mp hf
                  exact ⟨by show f + 1 < 8; omega, by show f < 8; omega⟩
            · exact ite_f (by simp [f8]) S0
          · clear hS S
            refine sq_go fun S hS => ?_
            walk_at "d"
            refine ⟨F, rs, rfl, hF, by omega, ?_⟩
            walk_at "d"
            refine hS _ ?_
            clear hS S
            refine sq_go fun S hS => ?_
            walk_at "d"
            refine dLc_rel (fun d e => ∃ z ∈ rs, d = cpD z ∧ RuP z e) (by rw [List.length_map]; unfold sizeLine; omega) (fun _ _ _ _ e => by cases e) (fun d hd U C0 g1 => ?_) (fun es a2 => ?_)
            · obtain ⟨z, hz, rfl⟩ := List.mem_map.mp hd
              walk_at "d"
              unfold cpD
              refine ⟨_, [nD z.1, nD z.2], .tup [nD z.1, nD z.2], rfl, rfl, rfl, ?_, ?_⟩
              · exact g1 _ _ _ rfl rfl ⟨z, hz, rfl, .inl rfl⟩
              · exact g1 _ _ _ rfl rfl ⟨z, hz, rfl, .inr rfl⟩
            · have le := a2.len
              rw [List.length_map] at le
              have em : es.map prD = rs := by
                rw [a2.map (f := prD) (g := prD) (fun d e h => by
                  obtain ⟨z, _, rfl, h⟩ := h
                  rw [h.pr, show prD (cpD z) = z by simp [prD, dcD, seqOfD, cpD, nD]]), List.map_map]
                exact (List.map_congr_left fun z _ => show prD (cpD z) = z by simp [prD, dcD, seqOfD, cpD, nD]).trans (List.map_id rs)
              have ee : ∀ e ∈ es, ∃ z ∈ rs, RuP z e := fun e he => by
                obtain ⟨d, _, z, hz, _, h⟩ := a2.mem e he
                exact ⟨z, hz, h⟩
              have cp : ∀ e ∈ es, CpD F e := fun e he => by
                obtain ⟨z, hz, h⟩ := ee e he
                exact h.cp (ar z hz).1 (ar z hz).2
              clear a2
              refine hS _ ?_
              clear hS S
              refine sq_go fun S hS => ?_
              walk_at "d"
              refine ⟨es, rfl, ?_, ?_, ?_⟩
              · exact (sh_rules (fun e he => by
                  obtain ⟨z, hz, h⟩ := ee e he
                  exact h.sh (by have := (ar z hz).1; omega) (by have := (ar z hz).2; omega)) (by omega)).1
              · exact (sh_rules (fun e he => by
                  obtain ⟨z, hz, h⟩ := ee e he
                  exact h.sh (by have := (ar z hz).1; omega) (by have := (ar z hz).2; omega)) (by omega)).2
              · walk_at "d"
                have rp : ∀ P : R → Prop, P (.dat (.str (toPy (.lst es)).shown)) → dRepr [.lst es] P := fun P h => by
                  have := sh_rules (fun e he => by
                    obtain ⟨z, hz, h⟩ := ee e he
                    exact h.sh (by have := (ar z hz).1; omega) (by have := (ar z hz).2; omega)) (by omega : es.length ≤ 64)
                  exact ⟨es, rfl, this.1, this.2, h⟩
                generalize (toPy (D.lst es)).shown = tx at rp ⊢
                have eY : sortN (keptL F rs) = factY F es := by unfold factY; rw [em]
                rw [eY]
                obtain ⟨rk, rk2⟩ : RowsOk (factY F es) ∧ ∀ s ∈ factY F es, s.Pairwise (· < ·) ∧ s.length ≤ F := by
                  unfold factY
                  exact rows_sets F _
                have wf : ∀ (Q : R → Prop) (ex : EXD), (24 < (factY F es).length → ex bm (bmA "many" 0)) → ((factY F es).length ≤ 24 → Q (.dat (.tup [ordV C (factY F es).length (sB (inB (factY F es))), .tup ((factY F es).map stD)]))) → wFo C bm [.int (F : Int), .lst es] Q ex := fun Q ex h1 h2 => wFo_of hF rfl (by omega) cp h1 h2
                generalize factY F es = Y at rk rk2 wf ⊢
                refine hS _ ?_
                clear hS S
                refine sq_go fun S hS => ?_
                walk_at "d"
                rw [List.length_map]
                refine ite_d (fun z => ?_) fun z => hS _ ?_
                · have z : 24 < Y.length := by simp at z; omega
                  refine ⟨"facts", _, _, "many", 0, rfl, .inr (.inr (.inl ⟨rfl, fun Q' ex' h => wf Q' ex' (fun _ => h) fun w => absurd w (by omega)⟩)), ?_⟩
                  walk_at "d"
                  refine ⟨by decide, ex_ref (by decide +kernel) ?_⟩
                  walk_at "d"
                  exact rp _ ⟨tx, rfl, rfl, (fun z => by cases z), q⟩
                · have z : Y.length ≤ 24 := by simp at z; omega
                  clear hS S
                  have p := po_sets rk (fun s hs => (rk2 s hs).1) z
                  refine sq_go fun S hS => ?_
                  walk_at "d"
                  refine wf _ _ (fun w => absurd w (by omega)) fun _ => ?_
                  walk_at "d"
                  refine hS _ ?_
                  clear hS S
                  have lr : (List.range Y.length).length ≤ 24 := by rw [List.length_range]; exact z
                  refine sq_go fun S hS => ?_
                  walk_at "d"
                  have ri := rows_ix Y
                  rw [ri]
                  refine dLc_gA (fun i => stD (Y.getD i [])) (fun _ => true) (fun x => .lst (rowD Y.length (inB Y x))) (List.range Y.length) [] (by rw [List.length_nil]; omega) (fun _ _ e => by cases e) (fun x hx U C0 g1 _ => ?_) ?_
                  · walk_at "d"
                    refine dLc_gA (fun i => stD (Y.getD i [])) (fun _ => true) (fun y => .bl (inB Y x y)) (List.range Y.length) [] (by rw [List.length_nil]; omega) (fun _ _ e => by cases e) (fun y hy U2 C1 k1 _ => ?_) ?_
                    · have hx := List.mem_range.mp hx
                      have ll : (Y.getD x []).length ≤ F := by
                        rw [getD_eq hx]
                        exact (rk2 _ (List.getElem_mem hx)).2
                      unfold stD
                      walk_at "d"
                      refine dLc_ns (fun f => !decide (f ∈ Y.getD y [])) nD (by omega) (fun _ _ e => by cases e) (fun f hf U3 C2 m1 m2 => ?_) ?_
                      · walk_at "d"
                        refine ⟨rfl, flatA_ns _, ?_⟩
                        by_cases c : f ∈ Y.getD y []
                        · exact ite_f (show ¬ (!inD (.int (f : Int)) (nsD (Y.getD y []))) = true by rw [in_ns, decide_eq_true c]; decide) (m2 (by rw [decide_eq_true c]; rfl))
                        · exact ite_t (show (!inD (.int (f : Int)) (nsD (Y.getD y []))) = true by rw [in_ns, decide_eq_false c]; rfl) (m1 (by rw [decide_eq_false c]; rfl) _ _ rfl rfl)
                      · refine k1 rfl _ _ rfl (congrArg D.bl (bool_ext ?_))
                        rw [inB_iff]
                        simp
                    · rw [List.nil_append, flt_true]
                      exact g1 rfl _ _ rfl rfl
                  · rw [List.nil_append, flt_true, ← ri]
                    refine hS _ ?_
                    clear hS S
                    walk_at "d"
                    refine ⟨Y.length, inB Y, id, rfl, p, ?_⟩
                    walk_at "d"
                    exact ex_rows3 z (fun s hs => by have := (rk2 s hs).2; omega) (ite_t rfl (rp _ ⟨tx, rfl, rfl, (fun z => by cases z), q⟩))
end
end Z

set_option Elab.async false
set_option linter.all false
set_option maxRecDepth 100000
namespace Z
open PySem L2
variable [TabsP]
local macro_rules | `(tactic| walk_at "d") => `(tactic| simp only [dSq, dIf, dOr, dAnd, dNot, dTT, dTB, dUn, dBin, dVar, dC, dRet, dNext, dOrV, dAndV, dNotT, dIfE, isiD, OV.isOwn, startD, List.map_cons, List.map_nil, List.cons_append, List.nil_append, List.append_nil, List.length_cons, List.length_nil, List.replicate, Nat.reduceAdd, Nat.reduceSub, Nat.sub_self, Nat.add_sub_cancel,
  List.getElem?_cons_zero, List.getElem?_cons_succ, bOk, iv_d, iv_n, iv_v, nr_d, nr_n, List.any_cons, List.any_nil, Bool.or_false, Bool.or_true, Bool.false_eq_true, Bool.not_true, Bool.not_false, false_implies, true_and, and_true, if_true, if_false, ite_true, ite_false, forall_const, reduceIte, reduceCtorEq,
  d0_1, dI_1, ad_i, ad_t, ad_l, ng_1, dCa, dCall0, dCons, dNil, dTup, dLst, dEq, dSeq, dRange, dEnum, dRg1, dRg2, dListRg, dTupRg, dSl, dONone, dOSome, dCall, mv_d, mv_n, mv_v, nn_n, nn_b, nn_i, nn_s, nn_l, nn_t, nn_x, nn_d, dSetF, dSetO, dDrop, dFor, dgName, dgTup, dgCons, dgNil, dRetN, dYes, it_1, pm_1, nmR, dXf, dIsE, sq_l, sq_t, sq_x, tr_n, tr_b, tr_i, tr_l, tr_t, tr_x, tr_d, vl_d, vl_n, vl_v, fr_d, fr_o, fr_k, sl_l, sl_t, sl_x, le_1, li_1, tu_1, tu_l, tu_t, tu_x, tx_1, tx_l, tx_t, tx_x, rr_d, rr_n, rr_v, in_1, ix_1, dt_1, isB_1, dCallT, dIdx, dRaise, dAsg, dDnew, List.set_cons_zero, List.set_cons_succ, noOwnAt, List.all_cons, List.all_nil, wipeE, lent, hasOwn, Option.map_some, Option.map_none, dLc, lt_n, pl_n, tyB_n, tyI_n, tyS_n, tyL_n, tyT_n, lt_b, pl_b, tyB_b, tyI_b, tyS_b, tyL_b, tyT_b, lt_i, pl_i, tyB_i, tyI_i, tyS_i, tyL_i, tyT_i, lt_s, pl_s, tyB_s, tyI_s, tyS_s, tyL_s, tyT_s, lt_l, pl_l, tyB_l, tyI_l, tyS_l, tyL_l, tyT_l, lt_t, pl_t, tyB_t, tyI_t, tyS_t, tyL_t, tyT_t, lt_x, pl_x, tyB_x, tyI_x, tyS_x, tyL_x, tyT_x, lt_d, pl_d, tyB_d, tyI_d, tyS_d, tyL_d, tyT_d, noL, noLA, Bool.and_true, Bool.true_and])
local macro_rules | `(tactic| walk_at "e") => `(tactic| first | exact ⟨_, rfl, rfl⟩ | rfl)
abbrev s_lfr : Stmt := top 44
section
variable {P : Program} {w : World} {K : PySem.W.Frag} {mg : Str → Option Value} {base : Heap}
theorem sc_lfr : FnScope ["hand", "facts", "rules", "at", "odd", "spoilt", "wrong", "k"] ["hand"] (defScope s_lfr) := ⟨rfl, rfl, rfl, by decide +kernel, rfl, by decide +kernel, by decide +kernel⟩
theorem wFo_facts {C bm : Addr} {a r : D} {Q : R → Prop} {ex : EXD} (pa : plainD a = true) (pr : PlR r) (wf : wholeD a (some 0) (some 8) = false) (h : ex bm (bmA "facts" 0)) : wFo C bm [a, r] Q ex := by
  refine ⟨a, r, rfl, pa, pr, fun what k e => ?_, fun G ys e1 h8 e2 _ _ => ?_⟩
  · unfold cfO at e
    rw [wf, if_neg (by simp)] at e
    cases e
    exact h
  · subst e1
    rw [show wholeD (.int (G : Int)) (some 0) (some 8) = true by simp [wholeD]; omega] at wf
    cases wf
theorem wFo_cfR {C bm : Addr} {F : Nat} {r : D} {Q : R → Prop} {ex : EXD} {what : Str} {k : Nat} (h8 : F ≤ 8) (pr : PlR r) (c : cfR F r = some (what, k)) (h : ex bm (bmA what k)) : wFo C bm [.int (F : Int), r] Q ex := by
  have ce : cfO (.int (F : Int)) r = some (what, k) := by
    unfold cfO
    rw [if_pos (by simp [wholeD]; omega)]
    exact c
  refine ⟨_, r, rfl, rfl, pr, fun what' k' e => ?_, fun G ys e1 _ e2 e3 e4 => ?_⟩
  · rw [ce] at e
    cases e
    exact h
  · obtain rfl : F = G := by have := D.int.inj e1; omega
    rw [cf_ok h8 e2 e3 e4] at ce
    cases ce
theorem bad_at {F : Nat} {x : D} {rest : List D} (hx : cplB F x = false) : ∀ (pre : List D) (k : Nat), (∀ y ∈ pre, CpD F y) → badAt F k (pre ++ x :: rest) = some (k + pre.length)
  | [], k, _ => by
    show (if cplB F x = true then _ else some k) = _
    rw [hx, if_neg (by simp)]
    rfl
  | y :: pre, k, h => by
    show (if cplB F y = true then badAt F (k + 1) (pre ++ x :: rest) else some k) = _
    rw [(h y (by simp)).pl.2, if_pos rfl, bad_at hx pre (k + 1) fun z hz => h z (by simp [hz]), List.length_cons]
    congr 1
    omega
theorem cfR_rule {F : Nat} {r x : D} {pre rest : List D} (hs : seqOfD r = some (pre ++ x :: rest)) (hl : pre.length + rest.length ≤ 60) (hp : ∀ y ∈ pre, CpD F y) (hx : cplB F x = false) : cfR F r = some (("rule" : Str), pre.length) := by
  unfold cfR
  rw [hs]
  show (if 64 < (pre ++ x :: rest).length then _ else _) = _
  rw [if_neg (by rw [List.length_append, List.length_cons]; omega), bad_at hx pre 0 hp, Nat.zero_add]
  rfl
theorem cut_frZ {xs : List D} {k : Nat} (h : k ≤ xs.length) : cutD xs (some (k : Int)) none = xs.drop k := by
  unfold cutD
  rw [HT.sIx_none, HT.sIx_nat, Nat.min_eq_left h]
  exact List.take_of_length_le (by rw [List.length_drop]; exact Nat.le_refl _)
/-- what is no couple, but may be passed -/
def OddD (F : Nat) (d : D) : Prop := PlD d ∧ cplB F d = false
theorem ok_lfr {C bm f : Addr} {fd : FuncData} (F : Fun K "_law_facts_refused" "_law_facts_refused" s_lfr f fd) (T : Bl mg) (c_law_draw : Cal P w K mg base CX0 "_law_draw" 2 (spD K wDraw)) (c_law_seq : Cal P w K mg base CX0 "_law_seq" 3 (spD K wSeqd)) (c_law_wrong : Cal P w K mg base CX0 "_law_wrong" 3 (spD K wWr)) (c_law_refusal : Cal P w K mg base CX0 "_law_refusal" 9 (spD K (wRfs C bm)))
    (c_law_exact : Cal P w K mg base CX0 "_law_exact" 3 (spD K (wExact 3))) :
    FnOk P w K mg base CX0 10 f fd ["hand"] (spD K wHT) := by
  refine okD F sc_lfr (fun ds Q ex h => ?_) (fun cdv A outer s H E hr md F0 a0 => ⟨_, _,
      (dss_cons (ds_setF (i := 1) sc_lfr.nd rfl (Or.inr rfl) (de_call c_law_draw (hr.mono (by decide)) (by rfl) (da_cons (de_var (pv 0)) (da_cons de_int da_nil))))
      (dss_cons (ds_lcF (i := 2) (own := [("k", 7)]) rfl sc_lfr.nd rfl rfl (sw_true rfl rfl rfl (by decide +kernel)) (di_range1 (by rfl) T.n_range (de_ifExp (dt_truth K (de_var (pv 1))) (de_call c_law_draw (hr.mono (by decide)) (by rfl) (da_cons (de_var (pv 0)) (da_cons de_int da_nil))) de_int)) (blkOk_by (own := [("k", 7)]) (by show blkC ["hand", "facts", "rules", "at", "odd", "spoilt", "wrong", "k"] (defScope s_lfr) _ _ = true; decide +kernel)) (fun _ _ _ _ _ _ _ _ => (dg_name (i := 7) sc_lfr.nd rfl (Or.inl rfl))) (fun _ _ _ _ _ _ _ _ => dps_nil) (fun _ _ _ _ _ _ _ _ => (de_tup (da_cons (de_call c_law_draw (hr.mono (by decide)) (by rfl) (da_cons (de_var (pv 0)) (da_cons (de_var (pv 1)) da_nil))) (da_cons (de_call c_law_draw (hr.mono (by decide)) (by rfl) (da_cons (de_var (pv 0)) (da_cons (de_var (pv 1)) da_nil))) da_nil)))) (by decide) s)
      (dss_cons (ds_if (dt_cmp (keqD K hr.units) opd_eq (de_call c_law_draw (hr.mono (by decide)) (by rfl) (da_cons (de_var (pv 0)) (da_cons de_int da_nil))) de_int (nomark _))
        (dss_one (ds_ret (de_call c_law_exact (hr.mono (by decide)) (by rfl) (da_cons (de_call c_law_refusal (hr.mono (by decide)) (by rfl) (da_cons de_str (da_cons (de_call c_law_wrong (hr.mono (by decide)) (by rfl) (da_cons (de_var (pv 0)) (da_cons de_int (da_cons de_int da_nil)))) (da_cons (de_ix (kix_seq K) opd_ix (de_lst (da_cons de_non (da_cons (de_var (pv 2)) da_nil))) (de_call c_law_draw (hr.mono (by decide)) (by rfl) (da_cons (de_var (pv 0)) (da_cons de_int da_nil))) (fun _ _ => rfl)) da_nil)))) (da_cons (de_tup (da_cons de_str (da_cons de_int da_nil))) da_nil)))))
        dss_nil)
      (dss_cons (ds_if (dt_cmp (keqD K hr.units) opd_eq (de_call c_law_draw (hr.mono (by decide)) (by rfl) (da_cons (de_var (pv 0)) (da_cons de_int da_nil))) de_int (nomark _))
        (dss_cons (ds_setF (i := 6) sc_lfr.nd rfl (Or.inl rfl) (de_ix (kix_seq K) opd_ix (de_lst (da_cons de_non (da_cons de_str (da_cons de_int (da_cons (de_op op_rep opd_rep (de_lst (da_cons (de_lst (da_cons de_int (da_cons de_int da_nil))) da_nil)) de_int) (da_cons de_dnewF da_nil)))))) (de_call c_law_draw (hr.mono (by decide)) (by rfl) (da_cons (de_var (pv 0)) (da_cons de_int da_nil))) (fun _ _ => rfl)))
        (dss_one (ds_ret (de_call c_law_exact (hr.mono (by decide)) (by rfl) (da_cons (de_call c_law_refusal (hr.mono (by decide)) (by rfl) (da_cons de_str (da_cons (de_var (pv 1)) (da_cons (de_var (pv 6)) da_nil)))) (da_cons (de_tup (da_cons de_str (da_cons de_int da_nil))) da_nil))))))
        dss_nil)
      (dss_cons (ds_setF (i := 3) sc_lfr.nd rfl (Or.inl rfl) (de_call c_law_draw (hr.mono (by decide)) (by rfl) (da_cons (de_var (pv 0)) (da_cons (de_op (op_addA K) opd_add (de_callB (klen K) cad_len (by rfl) T.n_len PySem.boot_len (da_cons (de_var (pv 2)) da_nil)) de_int) da_nil))))
      (dss_cons (ds_setF (i := 4) sc_lfr.nd rfl (Or.inl rfl) (de_ix (kix_seq K) opd_ix (de_lst (da_cons (de_tup (da_cons de_int (da_cons (de_var (pv 1)) da_nil))) (da_cons (de_tup (da_cons de_int (da_cons (de_un un_neg und_neg de_int) da_nil))) (da_cons (de_tup (da_cons (de_var (pv 1)) (da_cons de_int da_nil))) (da_cons (de_tup (da_cons (de_un un_neg und_neg de_int) (da_cons de_int da_nil))) (da_cons (de_tup (da_cons de_int da_nil)) (da_cons (de_tup (da_cons de_int (da_cons de_int (da_cons de_int da_nil)))) (da_cons de_non (da_cons de_str (da_cons (de_tup (da_cons de_int (da_cons de_non da_nil))) (da_cons (de_tup (da_cons de_bl (da_cons de_bl da_nil))) da_nil))))))))))) (de_call c_law_draw (hr.mono (by decide)) (by rfl) (da_cons (de_var (pv 0)) (da_cons de_int da_nil))) (fun _ _ => rfl)))
      (dss_cons (ds_setF (i := 5) sc_lfr.nd rfl (Or.inl rfl) (de_op (op_addA K) opd_add (de_op (op_addA K) opd_add (de_op (op_addA K) opd_add (de_slice K (de_var (pv 2)) do_none (do_some (de_var (pv 3)))) (de_lst (da_cons (de_var (pv 4)) da_nil))) (de_lst (da_cons (de_ix (kix_seq K) opd_ix (de_lst (da_cons de_non (da_cons (de_var (pv 4)) da_nil))) (de_call c_law_draw (hr.mono (by decide)) (by rfl) (da_cons (de_var (pv 0)) (da_cons de_int da_nil))) (fun _ _ => rfl)) da_nil))) (de_slice K (de_var (pv 2)) (do_some (de_var (pv 3))) do_none)))
      (dss_one (ds_ret (de_call c_law_exact (hr.mono (by decide)) (by rfl) (da_cons (de_call c_law_refusal (hr.mono (by decide)) (by rfl) (da_cons de_str (da_cons (de_var (pv 1)) (da_cons (de_call c_law_seq (hr.mono (by decide)) (by rfl) (da_cons (de_var (pv 0)) (da_cons (de_var (pv 5)) da_nil))) da_nil)))) (da_cons (de_tup (da_cons de_str (da_cons (de_var (pv 3)) da_nil))) da_nil))))))))))))
      , fun ds Q ex h => ?_⟩)
  · obtain ⟨rfl, _⟩ := h
    rfl
  · obtain ⟨rfl, q⟩ := h
    refine sq_go fun S hS => ?_
    walk_at "d"
    refine ⟨5, rfl, by decide, by decide, fun d d0 d5 => hS _ ?_⟩
    clear hS S
    obtain ⟨F, rfl⟩ : ∃ m : Nat, d = (m : Int) := ⟨d.toNat, by omega⟩
    have hF : F ≤ 4 := by omega
    refine sq_go fun S hS => ?_
    refine (fun S1 : ∀ rs : List (Nat × Nat), rs.length ≤ 3 → (∀ r ∈ rs, r.1 < F ∧ r.2 < F) → S [some (OV.dat .hnd), some (OV.dat (.int (F : Int))), some (OV.dat (.lst (rs.map cpD))), none, none, none, none, none] => ?_) (fun rs lr ar => hS _ ?_)
    · walk_at "d"
      by_cases f0 : F = 0
      · subst f0
        exact ite_f (by decide) ⟨r62_0, r62_0, S1 [] (by simp) (by simp)⟩
      · refine ite_t (by simp [f0]) ⟨4, rfl, by decide, by decide, fun m m0 m4 => ?_⟩
        obtain ⟨M, rfl⟩ : ∃ k : Nat, m = (k : Int) := ⟨m.toNat, by omega⟩
        walk_at "d"
        refine ⟨r62_0, r62 (by omega), ?_⟩
        rw [rgD_n]
        refine dLc_rel (fun _ e => ∃ r : Nat × Nat, e = cpD r ∧ r.1 < F ∧ r.2 < F) (by rw [nsD_len, List.length_range]; unfold sizeLine; omega) (fun _ _ _ _ e => by cases e) (fun d hd U C0 g1 => ?_) (fun es a2 => ?_)
        · walk_at "d"
          refine ⟨F, rfl, by omega, by omega, fun d1 x0 x1 => ?_⟩
          refine ⟨F, rfl, by omega, by omega, fun d2 y0 y1 => ?_⟩
          obtain ⟨x, rfl⟩ : ∃ m : Nat, d1 = (m : Int) := ⟨d1.toNat, by omega⟩
          obtain ⟨y, rfl⟩ : ∃ m : Nat, d2 = (m : Int) := ⟨d2.toNat, by omega⟩
          walk_at "d"
          exact ⟨by decide, g1 _ _ _ rfl rfl ⟨(x, y), rfl, by simpa using x1, by simpa using y1⟩⟩
        · obtain ⟨rs, rfl, hrs⟩ := cps_of fun e he => (a2.mem e he).elim fun _ h => h.2
          have := a2.len
          rw [List.length_map, nsD_len, List.length_range] at this
          exact S1 rs (by omega) hrs
    · clear hS S
      have cp : ∀ e ∈ rs.map cpD, CpD F e := fun e he => by
        obtain ⟨z, hz, rfl⟩ := List.mem_map.mp he
        exact cpD_ok (ar z hz).1 (ar z hz).2
      refine sq_go fun S hS => ?_
      walk_at "d"
      refine ⟨3, rfl, by decide, by decide, fun d d0 d3 => ?_⟩
      refine ⟨rfl, rfl, fun _ => trivial, ?_⟩
      refine ite_b ?_ (hS _ ?_)
      · refine ⟨0, 8, rfl, by decide, by decide, by decide, fun wd pd wf => ?_⟩
        refine ⟨by decide, 2, rfl, by decide, by decide, fun e e0 e2 => ?_⟩
        have c : e = 0 ∨ e = 1 := by omega
        have fin : ∀ r, PlR r → RefB C bm "facts" wd r "facts" 0 := fun r pr => .inr (.inr (.inl ⟨rfl, fun Q' ex' h => wFo_facts pd pr wf h⟩))
        rcases c with rfl | rfl
        · refine ⟨_, rfl, (fun z => by cases z), ?_⟩
          refine ⟨_, _, _, _, _, rfl, fin _ ⟨rfl, fun xs e => by cases e⟩, (fun z => by cases z), by decide, ?_⟩
          exact ex_ref (by decide +kernel) ⟨(fun z => by cases z), q⟩
        · refine ⟨_, rfl, (fun z => by cases z), ?_⟩
          refine ⟨_, _, _, _, _, rfl, fin _ (plR_cp (r := .lst (rs.map cpD)) rfl cp), (fun z => by cases z), by decide, ?_⟩
          exact ex_ref (by decide +kernel) ⟨(fun z => by cases z), q⟩
      · clear hS S
        refine sq_go fun S hS => ?_
        walk_at "d"
        refine ⟨3, rfl, by decide, by decide, fun d d0 d3 => ?_⟩
        refine ⟨rfl, rfl, fun _ => trivial, ?_⟩
        refine ite_b ?_ (hS _ ?_)
        · clear hS S
          have fin : ∀ r, PlR r → cfR F r = some (("rules" : Str), 0) → RefB C bm "facts" (.int (F : Int)) r "rules" 0 := fun r pr c => .inr (.inr (.inl ⟨rfl, fun Q' ex' h => wFo_cfR (by omega) pr c h⟩))
          refine ⟨by decide, by decide, ⟨by decide, by decide⟩, by decide, ?_⟩
          refine ⟨by decide, rfl, 5, rfl, by decide, by decide, fun e e0 e5 => ?_⟩
          have c : e = 0 ∨ e = 1 ∨ e = 2 ∨ e = 3 ∨ e = 4 := by omega
          rcases c with rfl | rfl | rfl | rfl | rfl
          · refine ⟨_, rfl, (fun z => by cases z), ?_⟩
            walk_at "d"
            exact ⟨_, _, _, _, _, rfl, fin _ ⟨rfl, fun xs e => by cases e⟩ rfl, by decide, ex_ref (by decide +kernel) ⟨(fun z => by cases z), q⟩⟩
          · refine ⟨_, rfl, (fun z => by cases z), ?_⟩
            walk_at "d"
            exact ⟨_, _, _, _, _, rfl, fin _ ⟨rfl, fun xs e => by cases e⟩ rfl, by decide, ex_ref (by decide +kernel) ⟨(fun z => by cases z), q⟩⟩
          · refine ⟨_, rfl, (fun z => by cases z), ?_⟩
            walk_at "d"
            exact ⟨_, _, _, _, _, rfl, fin _ ⟨rfl, fun xs e => by cases e⟩ rfl, by decide, ex_ref (by decide +kernel) ⟨(fun z => by cases z), q⟩⟩
          · refine ⟨_, rfl, (fun z => by cases z), ?_⟩
            walk_at "d"
            refine ⟨_, _, _, _, _, rfl, fin _ ⟨rfl, fun xs e x hx => ?_⟩ rfl, by decide, ex_ref (by decide +kernel) ⟨(fun z => by cases z), q⟩⟩
            cases e
            obtain ⟨l, hl, hx⟩ := List.mem_flatten.mp hx
            obtain ⟨_, rfl⟩ := List.mem_replicate.mp hl
            cases List.mem_singleton.mp hx
            refine ⟨rfl, fun ys e y hy => ?_⟩
            cases e
            rcases List.mem_cons.mp hy with rfl | hy
            · rfl
            · cases List.mem_singleton.mp hy
              rfl
          · refine ⟨_, rfl, (fun z => by cases z), ?_⟩
            walk_at "d"
            exact ⟨_, _, _, _, _, rfl, fin _ ⟨rfl, fun xs e => by cases e⟩ rfl, by decide, ex_ref (by decide +kernel) ⟨(fun z => by cases z), q⟩⟩
        · clear hS S
          refine sq_go fun S hS => ?_
          walk_at "d"
          refine ⟨_, rfl, by omega, by rw [List.length_map]; omega, fun d d0 dm => hS _ ?_⟩
          clear hS S
          obtain ⟨k, rfl⟩ : ∃ k : Nat, d = (k : Int) := ⟨d.toNat, by omega⟩
          have hk : k ≤ rs.length := by rw [List.length_map] at dm; omega
          refine sq_go fun S hS => ?_
          refine (fun S1 : ∀ od, OddD F od → S [some (OV.dat .hnd), some (OV.dat (.int (F : Int))), some (OV.dat (.lst (rs.map cpD))), some (OV.dat (.int (k : Int))), some (OV.dat od), none, none, none] => ?_) (fun od oo => hS _ ?_)
          · walk_at "d"
            refine ⟨by decide, by decide, by decide, by decide, by decide, by decide, by decide, by decide, by decide, 10, rfl, by decide, by decide, fun e e0 e10 => ?_⟩
            have pl : ∀ xs : List D, (∀ x ∈ xs, plainD x = true) → PlD (.tup xs) := fun xs h => ⟨rfl, fun ys e y hy => by cases e; exact h y hy⟩
            have c : e = 0 ∨ e = 1 ∨ e = 2 ∨ e = 3 ∨ e = 4 ∨ e = 5 ∨ e = 6 ∨ e = 7 ∨ e = 8 ∨ e = 9 := by omega
            rcases c with rfl | rfl | rfl | rfl | rfl | rfl | rfl | rfl | rfl | rfl
            · exact ⟨_, rfl, (fun z => by cases z), S1 _ ⟨pl _ (by simp [plainD]), (show cplB F (.tup [.int 0, .int (F : Int)]) = false by simp [cplB, seqOfD, wholeD]; omega)⟩⟩
            · exact ⟨_, rfl, (fun z => by cases z), S1 _ ⟨pl _ (by simp [plainD]), (show cplB F (.tup [.int 0, .int (-1)]) = false by simp [cplB, seqOfD, wholeD])⟩⟩
            · exact ⟨_, rfl, (fun z => by cases z), S1 _ ⟨pl _ (by simp [plainD]), (show cplB F (.tup [.int (F : Int), .int 0]) = false by simp [cplB, seqOfD, wholeD]; omega)⟩⟩
            · exact ⟨_, rfl, (fun z => by cases z), S1 _ ⟨pl _ (by simp [plainD]), (show cplB F (.tup [.int (-1), .int 0]) = false by simp [cplB, seqOfD, wholeD])⟩⟩
            · exact ⟨_, rfl, (fun z => by cases z), S1 _ ⟨pl _ (by simp [plainD]), rfl⟩⟩
            · exact ⟨_, rfl, (fun z => by cases z), S1 _ ⟨pl _ (by simp [plainD]), rfl⟩⟩
            · exact ⟨_, rfl, (fun z => by cases z), S1 _ ⟨⟨rfl, fun ys e => by cases e⟩, rfl⟩⟩
            · exact ⟨_, rfl, (fun z => by cases z), S1 _ ⟨⟨rfl, fun ys e => by cases e⟩, rfl⟩⟩
            · exact ⟨_, rfl, (fun z => by cases z), S1 _ ⟨pl _ (by simp [plainD]), (show cplB F (.tup [.int 0, .non]) = false by simp [cplB, seqOfD, wholeD])⟩⟩
            · exact ⟨_, rfl, (fun z => by cases z), S1 _ ⟨pl _ (by simp [plainD]), rfl⟩⟩
          · clear hS S
            have l1 : ((rs.map cpD).take k).length = k := by rw [List.length_take, List.length_map]; omega
            have l2 : ((rs.map cpD).drop k).length ≤ 3 := by rw [List.length_drop, List.length_map]; omega
            refine sq_go fun S hS => ?_
            refine (fun S1 : ∀ x, PlD x → S [some (OV.dat .hnd), some (OV.dat (.int (F : Int))), some (OV.dat (.lst (rs.map cpD))), some (OV.dat (.int (k : Int))), some (OV.dat od), some (OV.dat (.lst ((rs.map cpD).take k ++ [od] ++ [x] ++ (rs.map cpD).drop k))), none, none] => ?_) (fun x px => hS _ ?_)
            · walk_at "d"
              rw [cut_to, cut_frZ (by rw [List.length_map]; exact hk)]
              refine ⟨by decide, by rw [l1]; unfold sizeLine; omega, by decide, 2, rfl, by decide, by decide, fun e e0 e2 => ?_⟩
              have c : e = 0 ∨ e = 1 := by omega
              have big : ∀ x : D, ((rs.map cpD).take k ++ [od] ++ [x]).length + ((rs.map cpD).drop k).length ≤ sizeLine := fun x => by
                rw [List.length_append, List.length_append, l1]
                show k + 1 + 1 + _ ≤ sizeLine
                unfold sizeLine
                omega
              rcases c with rfl | rfl
              · exact ⟨_, rfl, (fun z => by cases z), by decide, rfl, by rw [List.length_append, l1]; show k + 1 + 1 ≤ sizeLine; unfold sizeLine; omega, big _, S1 .non ⟨rfl, fun ys e => by cases e⟩⟩
              · exact ⟨_, rfl, (fun z => by cases z), by decide, rfl, by rw [List.length_append, l1]; show k + 1 + 1 ≤ sizeLine; unfold sizeLine; omega, big _, S1 od oo.1⟩
            · clear hS S
              rw [show (rs.map cpD).take k ++ [od] ++ [x] ++ (rs.map cpD).drop k = (rs.map cpD).take k ++ od :: (x :: (rs.map cpD).drop k) by simp]
              generalize eall : (rs.map cpD).take k ++ od :: (x :: (rs.map cpD).drop k) = all
              have pall : ∀ y ∈ all, PlD y := fun y hy => by
                rw [← eall] at hy
                rcases List.mem_append.mp hy with hy | hy
                · exact (cp y (List.mem_of_mem_take hy)).pl.1
                · rcases List.mem_cons.mp hy with rfl | hy
                  · exact oo.1
                  · rcases List.mem_cons.mp hy with rfl | hy
                    · exact px
                    · exact (cp y (List.mem_of_mem_drop hy)).pl.1
              have fin : ∀ r, seqOfD r = some all → RefB C bm "facts" (.int (F : Int)) r "rule" k := fun r e => by
                refine .inr (.inr (.inl ⟨rfl, fun Q' ex' h => wFo_cfR (by omega) ⟨(by cases r <;> first | rfl | cases e), fun ys e2 y hy => ?_⟩ ?_ h⟩))
                · rw [e] at e2
                  cases e2
                  exact pall y hy
                · rw [cfR_rule (pre := (rs.map cpD).take k) (x := od) (rest := x :: (rs.map cpD).drop k) (by rw [e, eall]) (by rw [List.length_cons]; omega) (fun y hy => cp y (List.mem_of_mem_take hy)) oo.2, l1]
              walk_at "d"
              refine ⟨_, all, .tup all, rfl, rfl, rfl, ?_, ?_⟩
              · walk_at "d"
                exact ⟨_, _, _, _, _, rfl, fin _ rfl, by decide, ex_ref (by decide +kernel) ⟨(fun z => by cases z), q⟩⟩
              · walk_at "d"
                exact ⟨_, _, _, _, _, rfl, fin _ rfl, by decide, ex_ref (by decide +kernel) ⟨(fun z => by cases z), q⟩⟩
end
end Z

set_option Elab.async false
set_option linter.all false
set_option maxRecDepth 100000
namespace Z
open PySem L2
variable [TabsP]
local macro_rules | `(tactic| walk_at "d") => `(tactic| simp only [dSq, dIf, dOr, dAnd, dNot, dTT, dTB, dUn, dBin, dVar, dC, dRet, dNext, dOrV, dAndV, dNotT, dIfE, isiD, OV.isOwn, startD, List.map_cons, List.map_nil, List.cons_append, List.nil_append, List.append_nil, List.length_cons, List.length_nil, List.replicate, Nat.reduceAdd, Nat.reduceSub, Nat.sub_self, Nat.add_sub_cancel,
  List.getElem?_cons_zero, List.getElem?_cons_succ, bOk, iv_d, iv_n, iv_v, nr_d, nr_n, List.any_cons, List.any_nil, Bool.or_false, Bool.or_true, Bool.false_eq_true, Bool.not_true, Bool.not_false, false_implies, true_and, and_true, if_true, if_false, ite_true, ite_false, forall_const, reduceIte, reduceCtorEq,
  d0_1, dI_1, ad_i, ad_t, ad_l, ng_1, dCa, dCall0, dCons, dNil, dTup, dLst, dEq, dSeq, dRange, dEnum, dRg1, dRg2, dListRg, dTupRg, dSl, dONone, dOSome, dCall, mv_d, mv_n, mv_v, nn_n, nn_b, nn_i, nn_s, nn_l, nn_t, nn_x, nn_d, dSetF, dSetO, dDrop, dFor, dgName, dgTup, dgCons, dgNil, dRetN, dYes, it_1, pm_1, nmR, dXf, dIsE, sq_l, sq_t, sq_x, tr_n, tr_b, tr_i, tr_l, tr_t, tr_x, tr_d, vl_d, vl_n, vl_v, fr_d, fr_o, fr_k, sl_l, sl_t, sl_x, le_1, li_1, tu_1, tu_l, tu_t, tu_x, tx_1, tx_l, tx_t, tx_x, rr_d, rr_n, rr_v, in_1, ix_1, dt_1, isB_1, dCallT, dIdx, dRaise, dAsg, dDnew, List.set_cons_zero, List.set_cons_succ, noOwnAt, List.all_cons, List.all_nil, wipeE, lent, hasOwn, Option.map_some, Option.map_none, dLc, lt_n, pl_n, tyB_n, tyI_n, tyS_n, tyL_n, tyT_n, lt_b, pl_b, tyB_b, tyI_b, tyS_b, tyL_b, tyT_b, lt_i, pl_i, tyB_i, tyI_i, tyS_i, tyL_i, tyT_i, lt_s, pl_s, tyB_s, tyI_s, tyS_s, tyL_s, tyT_s, lt_l, pl_l, tyB_l, tyI_l, tyS_l, tyL_l, tyT_l, lt_t, pl_t, tyB_t, tyI_t, tyS_t, tyL_t, tyT_t, lt_x, pl_x, tyB_x, tyI_x, tyS_x, tyL_x, tyT_x, lt_d, pl_d, tyB_d, tyI_d, tyS_d, tyL_d, tyT_d, noL, noLA, Bool.and_true, Bool.true_and])
local macro_rules | `(tactic| walk_at "e") => `(tactic| first | exact ⟨_, rfl, rfl⟩ | rfl)
abbrev s_law2 : Stmt := top 45
abbrev s_lw : Stmt := top 46
section
variable {P : Program} {w : World} {K : PySem.W.Frag} {mg : Str → Option Value} {base : Heap}
theorem sc_law2 : FnScope ["letters", "depth", "words", "level", "size", "longer", "word", "letter"] ["letters", "depth"] (defScope s_law2) := ⟨rfl, rfl, rfl, by decide +kernel, rfl, by decide +kernel, by decide +kernel⟩
theorem sc_lw : FnScope ["hand", "letters", "depth", "words", "below", "wrong", "order", "told", "one", "other"] ["hand"] (defScope s_lw) := ⟨rfl, rfl, rfl, by decide +kernel, rfl, by decide +kernel, by decide +kernel⟩
theorem noLA_rows : ∀ Y : List (List Nat), noLA (Y.map stD) = true
  | [] => rfl
  | s :: Y => by
    show (noLA (nsD s) && noLA (Y.map stD)) = true
    rw [noLA_ns, noLA_rows Y]
    rfl
def wAw : DW := fun ds Q _ => ∃ L d : Nat, ds = [.int (L : Int), .int (d : Int)] ∧ 1 ≤ L ∧ L ≤ 23 ∧ d ≤ 23 ∧ (24 < (wordsL L d).length → Q (.dat .non)) ∧ ((wordsL L d).length ≤ 24 → Q (.dat (.lst ((wordsL L d).map stD))))
theorem ok_aw {f : Addr} {fd : FuncData} (F : Fun K "_law_all_words" "_law_all_words" s_law2 f fd) (T : Bl mg) : FnOk P w K mg base CX0 1 f fd ["letters", "depth"] (spD K wAw) := by
  refine okD F sc_law2 (fun ds Q ex h => ?_) (fun cdv A outer s H E hr md F0 a0 => ⟨_, _,
      (dss_cons (ds_setF (i := 2) sc_law2.nd rfl (Or.inl rfl) (de_lst (da_cons (de_tup da_nil) da_nil)))
      (dss_cons (ds_setF (i := 3) sc_law2.nd rfl (Or.inl rfl) (de_lst (da_cons (de_tup da_nil) da_nil)))
      (dss_cons (ds_for PassesOwn.never rfl (di_range1 (by rfl) T.n_range (de_var (pv 1))) (dg_name (i := 4) sc_law2.nd rfl (Or.inl rfl))
        (dss_cons (ds_setO (i := 5) sc_law2.nd rfl (Or.inl rfl) (de_lst da_nil))
        (dss_cons (ds_for PassesOwn.never rfl (di_seq K (de_var (pv 3))) (dg_name (i := 6) sc_law2.nd rfl (Or.inr rfl))
          (dss_one (ds_expr (de_extend (pv 5) (de_lc (own := [("letter", 7)]) rfl sc_law2.nd (di_range1 (by rfl) T.n_range (de_var (pv 0))) (blkOk_by (own := [("letter", 7)]) (by show blkC ["letters", "depth", "words", "level", "size", "longer", "word", "letter"] (defScope s_law2) _ _ = true; decide +kernel)) (fun _ _ _ _ _ _ _ _ => (dg_name (i := 7) sc_law2.nd rfl (Or.inl rfl))) (fun _ _ _ _ _ _ _ _ => dps_nil) (fun _ _ _ _ _ _ _ _ => (de_op (op_addA K) opd_add (de_var (pv 6)) (de_tup (da_cons (de_var (pv 7)) da_nil)))) (by decide) s)))))
        (dss_cons (ds_setF (i := 3) sc_law2.nd rfl (Or.inl rfl) (de_callTy (klist_of K) cad_list (by rfl) T.n_list (by decide +kernel) (da_cons (de_var (pv 5)) da_nil)))
        (dss_cons (ds_setF (i := 2) sc_law2.nd rfl (Or.inl rfl) (de_op (op_addA K) opd_add (de_var (pv 2)) (de_var (pv 5))))
        (dss_one (ds_if (dt_cmp op_gt opd_B0 (de_callB (klen K) cad_len (by rfl) T.n_len PySem.boot_len (da_cons (de_var (pv 2)) da_nil)) de_int (nomark _))
          (dss_one (ds_ret de_non))
          dss_nil)))))))
      (dss_one (ds_ret (de_var (pv 2)))))))
      , fun ds Q ex h => ?_⟩)
  · obtain ⟨_, _, rfl, _⟩ := h
    rfl
  · obtain ⟨L, d, rfl, l1, l23, d23, q1, q2⟩ := h
    refine sq_go fun S hS => ?_
    walk_at "d"
    refine ⟨by decide, by decide, hS _ ?_⟩
    clear hS S
    refine sq_go fun S hS => ?_
    walk_at "d"
    refine ⟨by decide, by decide, hS _ ?_⟩
    clear hS S
    refine sq_go fun S hS => ?_
    walk_at "d"
    rw [rgD_n]
    refine ⟨r62_0, r62 (by omega), dFor_rg (fun i ρ => i ≤ d ∧ (wordsL L i).length ≤ 24 ∧ ∃ (o a : Option D) (p : Option OV), ρ = [some (OV.dat (.int (L : Int))), some (OV.dat (.int (d : Int))), some (OV.dat (.lst ((wordsL L i).map stD))), some (OV.dat (.lst ((levL L i).map stD))), o.map OV.dat, p, a.map OV.dat, none]) ?_ ?_ ⟨Nat.zero_le _, (by decide : 1 ≤ 24), none, none, none, rfl⟩⟩
    · rintro ρ ⟨_, w24, o, a, p, rfl⟩
      refine hS _ ?_
      clear hS S
      walk_at "d"
      exact q2 w24
    · rintro i hi C ρ ⟨_, w24, o, a, p, rfl⟩ hC
      have l0 := lev_le (L := L) (i := i)
      show dSq _ _ _ _
      refine sq_go fun S2 hS2 => ?_
      walk_at "d"
      refine ⟨by decide, hS2 _ ?_⟩
      clear hS2 S2
      refine sq_go fun S2 hS2 => ?_
      walk_at "d"
      refine dFor_at (fun j ρ => ∃ a : Option D, ρ = [some (OV.dat (.int (L : Int))), some (OV.dat (.int (d : Int))), some (OV.dat (.lst ((wordsL L i).map stD))), some (OV.dat (.lst ((levL L i).map stD))), some (OV.dat (.int (i : Int))), some (OV.own ((((levL L i).take j).flatMap fun w => (List.range L).map fun l => w ++ [l]).map stD)), a.map OV.dat, none]) ?_ ?_ ⟨a, by rw [List.take_zero]; rfl⟩
      · rintro ρ ⟨a, rfl⟩
        rw [List.length_map, List.take_length, show (levL L i).flatMap (fun w => (List.range L).map fun l => w ++ [l]) = levL L (i + 1) from rfl]
        refine hS2 _ ?_
        clear hS2 S2
        have l2 := lev_len L i
        have l3 : (levL L i).length * L ≤ 24 * 23 := Nat.mul_le_mul (by omega) (by omega)
        refine sq_go fun S2 hS2 => ?_
        walk_at "d"
        refine ⟨noLA_rows _, hS2 _ ?_⟩
        clear hS2 S2
        refine sq_go fun S2 hS2 => ?_
        walk_at "d"
        refine ⟨by rw [List.length_map, List.length_map]; unfold sizeLine; omega, by rw [← List.map_append]; exact noLA_rows _, hS2 _ ?_⟩
        clear hS2 S2
        rw [← List.map_append, show wordsL L i ++ levL L (i + 1) = wordsL L (i + 1) from rfl]
        have mono := words_len_mono (L := L) (i := i + 1) (d := d) hi
        walk_at "d"
        rw [List.length_map]
        refine ite_d (fun z => q1 (by simp at z; omega)) fun z => hC _ ⟨hi, by simp at z; omega, some (.int (i : Int)), a, _, rfl⟩
      · rintro j hj C2 ρ ⟨a, rfl⟩ hC2
        have hj' : j < (levL L i).length := by rw [List.length_map] at hj; exact hj
        have lv := lev_mem (List.getElem_mem hj')
        have ft : (levL L i).take (j + 1) = (levL L i).take j ++ [(levL L i)[j]] := by rw [List.take_add_one, List.getElem?_eq_getElem hj']; rfl
        have hC2 := hC2 _ ⟨some (stD (levL L i)[j]), rfl⟩
        rw [ft, List.flatMap_append, List.map_append] at hC2
        rw [List.getElem_map]
        generalize (levL L i)[j] = v at lv hC2 ⊢
        unfold stD at hC2 ⊢
        walk_at "d"
        unfold dExt isOwnL ownAt
        walk_at "d"
        rw [rgD_n]
        have fl : (((levL L i).take j).flatMap fun w => (List.range L).map fun l => w ++ [l]).length ≤ 24 * 23 := by
          rw [fm_len (k := L) (fun w => by simp), List.length_take]
          exact Nat.mul_le_mul (by omega) l23
        refine ⟨r62_0, r62 (by omega), dLc_ns (fun _ => true) (fun l => stD (v ++ [l])) (by rw [List.length_range]; omega) (fun l _ _ => noLA_ns _) (fun l hl U C0 g1 _ => ?_) ?_⟩
        · walk_at "d"
          refine ⟨by decide, by rw [nsD_len]; unfold sizeLine; omega, g1 rfl _ _ rfl ?_⟩
          show D.tup (nsD v ++ [D.int (l : Int)]) = .tup (nsD (v ++ [l]))
          rw [nsD_app]
          rfl
        · rw [flt_true]
          refine ⟨_, rfl, ?_, ?_⟩
          · rw [List.length_map, List.length_map, List.length_range]
            unfold sizeLine
            omega
          · have e : [v].flatMap (fun w => (List.range L).map fun l => w ++ [l]) = (List.range L).map fun l => v ++ [l] := by simp
            rw [e, List.map_map] at hC2
            exact hC2
theorem wh_nat {n : Nat} {lo hi : Int} (h1 : lo ≤ (n : Int)) (h2 : (n : Int) ≤ hi) : wholeD (.int (n : Int)) (some lo) (some hi) = true := by
  simp [wholeD]
  exact ⟨h1, h2⟩
theorem wh_narrow {d : D} (h : wholeD d (some 0) (some 23) = false) : wholeD d (some 1) (some 23) = false := by
  cases d <;> first | rfl | skip
  rename_i i
  simp only [wholeD, Bool.and_eq_false_iff, decide_eq_false_iff_not] at h ⊢
  omega
theorem wWd_letters {C bm : Addr} {a b : D} {Q : R → Prop} {ex : EXD} (pa : plainD a = true) (pb : plainD b = true) (wf : wholeD a (some 1) (some 23) = false) (h : ex bm (bmA "letters" 0)) : wWd C bm [a, b] Q ex := by
  refine ⟨a, b, rfl, pa, pb, fun _ => h, fun L e l1 l23 => ?_⟩
  subst e
  rw [wh_nat (by omega) (by omega)] at wf
  cases wf
theorem wWd_depth {C bm : Addr} {L : Nat} {b : D} {Q : R → Prop} {ex : EXD} (l1 : 1 ≤ L) (l23 : L ≤ 23) (pb : plainD b = true) (wf : wholeD b (some 0) (some 23) = false) (h : ex bm (bmA "depth" 0)) : wWd C bm [.int (L : Int), b] Q ex := by
  refine ⟨_, b, rfl, rfl, pb, fun z => ?_, fun L' e _ _ => ⟨fun _ => h, fun d e d23 => ?_⟩⟩
  · rw [wh_nat (by omega) (by omega)] at z
    cases z
  · subst e
    rw [wh_nat (by omega) (by omega)] at wf
    cases wf
theorem wWd_of {C bm : Addr} {L d : Nat} {Q : R → Prop} {ex : EXD} (l1 : 1 ≤ L) (l23 : L ≤ 23) (d23 : d ≤ 23) (h1 : 24 < (wordsL L d).length → ex bm (bmA "many" 0)) (h2 : (wordsL L d).length ≤ 24 → Q (.dat (.tup [ordV C (wordsL L d).length (sB (preB (wordsL L d))), .tup ((wordsL L d).map stD)]))) : wWd C bm [.int (L : Int), .int (d : Int)] Q ex := by
  refine ⟨_, _, rfl, rfl, rfl, fun z => ?_, fun L' e _ _ => ⟨fun z => ?_, fun d' e' _ => ?_⟩⟩
  · rw [wh_nat (by omega) (by omega)] at z
    cases z
  · rw [wh_nat (by omega) (by omega)] at z
    cases z
  · obtain rfl : L = L' := by have := D.int.inj e; omega
    obtain rfl : d = d' := by have := D.int.inj e'; omega
    exact ⟨h1, h2⟩
theorem ok_lw {C bm f : Addr} {fd : FuncData} (F : Fun K "_law_words" "_law_words" s_lw f fd) (T : Bl mg) (c_law_draw : Cal P w K mg base CX0 "_law_draw" 2 (spD K wDraw)) (c_law_all_words : Cal P w K mg base CX0 "_law_all_words" 1 (spD K wAw)) (c_law_wrong : Cal P w K mg base CX0 "_law_wrong" 3 (spD K wWr)) (c_law_refusal : Cal P w K mg base CX0 "_law_refusal" 9 (spD K (wRfs C bm)))
    (c_law_exact : Cal P w K mg base CX0 "_law_exact" 3 (spD K (wExact 3))) (c_law_told_right : Cal P w K mg base CX0 "_law_told_right" 5 (spD K (wTR C))) (cwords_order : Cal P w K mg base (L2.CX P w) "words_order" 6 (spD K (wWd C bm))) :
    FnOk P w K mg base CX0 10 f fd ["hand"] (spD K wHT) := by
  refine okD F sc_lw (fun ds Q ex h => ?_) (fun cdv A outer s H E hr md F0 a0 => ⟨_, _,
      (dss_cons (ds_setF (i := 1) sc_lw.nd rfl (Or.inl rfl) (de_ix (kix_seq K) opd_ix (de_lst (da_cons de_int (da_cons de_int (da_cons de_int (da_cons de_int (da_cons de_int (da_cons de_int (da_cons (de_op (op_addA K) opd_add de_int (de_call c_law_draw (hr.mono (by decide)) (by rfl) (da_cons (de_var (pv 0)) (da_cons de_int da_nil)))) (da_cons de_int da_nil))))))))) (de_call c_law_draw (hr.mono (by decide)) (by rfl) (da_cons (de_var (pv 0)) (da_cons de_int da_nil))) (fun _ _ => rfl)))
      (dss_cons (ds_setF (i := 2) sc_lw.nd rfl (Or.inl rfl) (de_ix (kix_seq K) opd_ix (de_lst (da_cons de_int (da_cons de_int (da_cons de_int (da_cons de_int (da_cons de_int (da_cons de_int (da_cons (de_call c_law_draw (hr.mono (by decide)) (by rfl) (da_cons (de_var (pv 0)) (da_cons de_int da_nil))) (da_cons de_int da_nil))))))))) (de_call c_law_draw (hr.mono (by decide)) (by rfl) (da_cons (de_var (pv 0)) (da_cons de_int da_nil))) (fun _ _ => rfl)))
      (dss_cons (ds_setF (i := 3) sc_lw.nd rfl (Or.inr rfl) (de_call c_law_all_words (hr.mono (by decide)) (by rfl) (da_cons (de_var (pv 1)) (da_cons (de_var (pv 2)) da_nil))))
      (dss_cons (ds_if (dt_cmp (keqD K hr.units) opd_eq (de_call c_law_draw (hr.mono (by decide)) (by rfl) (da_cons (de_var (pv 0)) (da_cons de_int da_nil))) de_int (nomark _))
        (dss_cons (ds_setF (i := 5) sc_lw.nd rfl (Or.inl rfl) (de_call c_law_wrong (hr.mono (by decide)) (by rfl) (da_cons (de_var (pv 0)) (da_cons de_int (da_cons de_int da_nil)))))
        (dss_cons (ds_if (dt_cmp (keqD K hr.units) opd_eq (de_call c_law_draw (hr.mono (by decide)) (by rfl) (da_cons (de_var (pv 0)) (da_cons de_int da_nil))) de_int (nomark _))
          (dss_one (ds_ret (de_call c_law_exact (hr.mono (by decide)) (by rfl) (da_cons (de_call c_law_refusal (hr.mono (by decide)) (by rfl) (da_cons de_str (da_cons (de_var (pv 1)) (da_cons (de_var (pv 5)) da_nil)))) (da_cons (de_tup (da_cons de_str (da_cons de_int da_nil))) da_nil)))))
          dss_nil)
        (dss_one (ds_ret (de_call c_law_exact (hr.mono (by decide)) (by rfl) (da_cons (de_call c_law_refusal (hr.mono (by decide)) (by rfl) (da_cons de_str (da_cons (de_ix (kix_seq K) opd_ix (de_lst (da_cons (de_var (pv 5)) (da_cons de_int da_nil))) (de_call c_law_draw (hr.mono (by decide)) (by rfl) (da_cons (de_var (pv 0)) (da_cons de_int da_nil))) (fun _ _ => rfl)) (da_cons (de_var (pv 5)) da_nil)))) (da_cons (de_tup (da_cons de_str (da_cons de_int da_nil))) da_nil)))))))
        dss_nil)
      (dss_cons (ds_if (dt_cmp op_isN opd_isN (de_var (pv 3)) de_non (nomark _))
        (dss_one (ds_ret (de_call c_law_exact (hr.mono (by decide)) (by rfl) (da_cons (de_call c_law_refusal (hr.mono (by decide)) (by rfl) (da_cons de_str (da_cons (de_var (pv 1)) (da_cons (de_var (pv 2)) da_nil)))) (da_cons (de_tup (da_cons de_str (da_cons de_int da_nil))) da_nil)))))
        dss_nil)
      (dss_cons (ds_asg (de_callT cwords_order.v (hr.mono (by decide)) (by rfl) takesF lxtF (fun _ => .nil) (da_cons (de_var (pv 1)) (da_cons (de_var (pv 2)) da_nil))) (dg_tup K (n := 2) rfl (dgs_cons (dg_name (i := 6) sc_lw.nd rfl (Or.inl rfl)) (dgs_cons (dg_name (i := 7) sc_lw.nd rfl (Or.inl rfl)) dgs_nil))))
      (dss_cons (ds_lcF (i := 4) (own := [("one", 8)]) rfl sc_lw.nd rfl rfl (sw_true rfl rfl rfl (by decide +kernel)) (di_seq K (de_var (pv 3))) (blkOk_by (own := [("one", 8)]) (by show blkC ["hand", "letters", "depth", "words", "below", "wrong", "order", "told", "one", "other"] (defScope s_lw) _ _ = true; decide +kernel)) (fun _ _ _ _ _ _ _ _ => (dg_name (i := 8) sc_lw.nd rfl (Or.inr rfl))) (fun _ _ _ _ _ _ _ _ => dps_nil) (fun _ _ _ _ _ _ _ _ => (de_lc (own := [("other", 9)]) rfl sc_lw.nd (di_seq K (de_var (pv 3))) (blkOk_by (own := [("other", 9)]) (by show blkC ["hand", "letters", "depth", "words", "below", "wrong", "order", "told", "one", "other"] (relS _ (defScope s_lw)) _ _ = true; decide +kernel)) (fun _ _ _ _ _ _ _ _ => (dg_name (i := 9) sc_lw.nd rfl (Or.inl rfl))) (fun _ _ _ _ _ _ _ _ => dps_nil) (fun _ _ _ _ _ _ _ _ => (de_cmp (keqD K hr.units) opd_eq (de_slice K (de_var (pv 9)) do_none (do_some (de_callB (klen K) cad_len (by rfl) T.n_len PySem.boot_len (da_cons (de_var (pv 8)) da_nil)))) (de_var (pv 8)) (nomark _))) (by decide) s)) (by decide) s)
      (dss_one (ds_ret (de_and (de_call c_law_told_right (hr.mono (by decide)) (by rfl) (da_cons (de_var (pv 6)) (da_cons (de_var (pv 4)) da_nil))) (de_one (de_call c_law_exact (hr.mono (by decide)) (by rfl) (da_cons (de_var (pv 7)) (da_cons (de_callTy (ktuple_of K) cad_tuple (by rfl) T.n_tuple (by decide +kernel) (da_cons (de_var (pv 3)) da_nil)) da_nil))))))))))))))
      , fun ds Q ex h => ?_⟩)
  · obtain ⟨rfl, _⟩ := h
    rfl
  · obtain ⟨rfl, q⟩ := h
    refine sq_go fun S hS => ?_
    refine (fun S1 : ∀ L : Nat, 1 ≤ L → L ≤ 23 → S [some (OV.dat .hnd), some (OV.dat (.int (L : Int))), none, none, none, none, none, none, none, none] => ?_) (fun L l1 l23 => hS _ ?_)
    · walk_at "d"
      refine ⟨23, rfl, by decide, by decide, fun m m0 m23 => ?_⟩
      obtain ⟨M, rfl⟩ : ∃ k : Nat, m = (k : Int) := ⟨m.toNat, by omega⟩
      walk_at "d"
      refine ⟨by decide, 8, rfl, by decide, by decide, fun e e0 e8 => ?_⟩
      have c : e = 0 ∨ e = 1 ∨ e = 2 ∨ e = 3 ∨ e = 4 ∨ e = 5 ∨ e = 6 ∨ e = 7 := by omega
      rcases c with rfl | rfl | rfl | rfl | rfl | rfl | rfl | rfl
      · exact ⟨_, rfl, (fun z => by cases z), S1 1 (by decide) (by decide)⟩
      · exact ⟨_, rfl, (fun z => by cases z), S1 1 (by decide) (by decide)⟩
      · exact ⟨_, rfl, (fun z => by cases z), S1 2 (by decide) (by decide)⟩
      · exact ⟨_, rfl, (fun z => by cases z), S1 2 (by decide) (by decide)⟩
      · exact ⟨_, rfl, (fun z => by cases z), S1 3 (by decide) (by decide)⟩
      · exact ⟨_, rfl, (fun z => by cases z), S1 4 (by decide) (by decide)⟩
      · refine ⟨_, rfl, (fun z => by cases z), ?_⟩
        rw [show (1 : Int) + (M : Int) = ((1 + M : Nat) : Int) by omega]
        exact S1 (1 + M) (by omega) (by omega)
      · exact ⟨_, rfl, (fun z => by cases z), S1 23 (by decide) (by decide)⟩
    · clear hS S
      refine sq_go fun S hS => ?_
      refine (fun S1 : ∀ d : Nat, d ≤ 23 → S [some (OV.dat .hnd), some (OV.dat (.int (L : Int))), some (OV.dat (.int (d : Int))), none, none, none, none, none, none, none] => ?_) (fun d d23 => hS _ ?_)
      · walk_at "d"
        refine ⟨24, rfl, by decide, by decide, fun m m0 m23 => ?_⟩
        obtain ⟨M, rfl⟩ : ∃ k : Nat, m = (k : Int) := ⟨m.toNat, by omega⟩
        walk_at "d"
        refine ⟨by decide, 8, rfl, by decide, by decide, fun e e0 e8 => ?_⟩
        have c : e = 0 ∨ e = 1 ∨ e = 2 ∨ e = 3 ∨ e = 4 ∨ e = 5 ∨ e = 6 ∨ e = 7 := by omega
        rcases c with rfl | rfl | rfl | rfl | rfl | rfl | rfl | rfl
        · exact ⟨_, rfl, (fun z => by cases z), S1 0 (by decide)⟩
        · exact ⟨_, rfl, (fun z => by cases z), S1 1 (by decide)⟩
        · exact ⟨_, rfl, (fun z => by cases z), S1 1 (by decide)⟩
        · exact ⟨_, rfl, (fun z => by cases z), S1 2 (by decide)⟩
        · exact ⟨_, rfl, (fun z => by cases z), S1 2 (by decide)⟩
        · exact ⟨_, rfl, (fun z => by cases z), S1 3 (by decide)⟩
        · exact ⟨_, rfl, (fun z => by cases z), S1 M (by omega)⟩
        · exact ⟨_, rfl, (fun z => by cases z), S1 23 (by decide)⟩
      · clear hS S
        have wf0 : ∀ (Q : R → Prop) (ex : EXD), (24 < (wordsL L d).length → ex bm (bmA "many" 0)) → ((wordsL L d).length ≤ 24 → Q (.dat (.tup [ordV C (wordsL L d).length (sB (preB (wordsL L d))), .tup ((wordsL L d).map stD)]))) → wWd C bm [.int (L : Int), .int (d : Int)] Q ex := fun Q ex h1 h2 => wWd_of l1 l23 d23 h1 h2
        have wfa : ∀ Q : R → Prop, (24 < (wordsL L d).length → Q (.dat .non)) → ((wordsL L d).length ≤ 24 → Q (.dat (.lst ((wordsL L d).map stD)))) → wAw [.int (L : Int), .int (d : Int)] Q exF := fun Q h1 h2 => ⟨L, d, rfl, l1, l23, d23, h1, h2⟩
        have rk := rows_words L d
        have sz : ∀ v ∈ wordsL L d, v.length ≤ d := fun v hv => (words_mem.mp hv).1
        generalize wordsL L d = Y at wf0 wfa rk sz
        refine sq_go fun S hS => ?_
        refine (fun S1 : ∀ y : D, ((24 < Y.length ∧ y = .non) ∨ (Y.length ≤ 24 ∧ y = .lst (Y.map stD))) → S [some (OV.dat .hnd), some (OV.dat (.int (L : Int))), some (OV.dat (.int (d : Int))), some (OV.dat y), none, none, none, none, none, none] => ?_) (fun y hy => hS _ ?_)
        · walk_at "d"
          exact wfa _ (fun h => S1 _ (.inl ⟨h, rfl⟩)) fun h => S1 _ (.inr ⟨h, rfl⟩)
        · clear hS S
          refine sq_go fun S hS => ?_
          walk_at "d"
          refine ⟨4, rfl, by decide, by decide, fun e e0 e4 => ?_⟩
          refine ⟨rfl, rfl, fun _ => trivial, ?_⟩
          refine ite_b ?_ (hS _ ?_)
          · clear hS S
            refine ⟨0, 23, rfl, by decide, by decide, by decide, fun wd pd wf => ?_⟩
            walk_at "d"
            refine ⟨2, rfl, by decide, by decide, fun e e0 e2 => ?_⟩
            refine ⟨rfl, rfl, fun _ => trivial, ?_⟩
            refine ite_b ?_ ?_
            · refine ⟨_, _, _, _, _, rfl, .inr (.inr (.inr ⟨rfl, fun Q' ex' h => wWd_depth l1 l23 pd wf h⟩)), ?_⟩
              exact ⟨by decide, ex_ref (by decide +kernel) ⟨(fun z => by cases z), q⟩⟩
            · refine ⟨by decide, 2, rfl, by decide, by decide, fun e e0 e2 => ?_⟩
              have c : e = 0 ∨ e = 1 := by omega
              rcases c with rfl | rfl
              · refine ⟨_, rfl, (fun z => by cases z), ?_⟩
                walk_at "d"
                refine ⟨_, _, _, _, _, rfl, .inr (.inr (.inr ⟨rfl, fun Q' ex' h => wWd_letters pd pd (wh_narrow wf) h⟩)), ?_⟩
                exact ⟨by decide, ex_ref (by decide +kernel) ⟨(fun z => by cases z), q⟩⟩
              · refine ⟨_, rfl, (fun z => by cases z), ?_⟩
                walk_at "d"
                refine ⟨_, _, _, _, _, rfl, .inr (.inr (.inr ⟨rfl, fun Q' ex' h => wWd_letters rfl pd rfl h⟩)), ?_⟩
                exact ⟨by decide, ex_ref (by decide +kernel) ⟨(fun z => by cases z), q⟩⟩
          · clear hS S
            refine sq_go fun S hS => ?_
            rcases hy with ⟨h24, rfl⟩ | ⟨h24, rfl⟩
            · walk_at "d"
              refine ⟨_, _, _, _, _, rfl, .inr (.inr (.inr ⟨rfl, fun Q' ex' h => wf0 Q' ex' (fun _ => h) fun z => absurd z (by omega)⟩)), ?_⟩
              walk_at "d"
              exact ⟨by decide, ex_ref (by decide +kernel) q⟩
            · walk_at "d"
              refine hS _ ?_
              clear hS S
              have p := po_words rk h24
              refine sq_go fun S hS => ?_
              walk_at "d"
              refine wf0 _ _ (fun z => absurd z (by omega)) fun _ => ?_
              walk_at "d"
              refine hS _ ?_
              clear hS S
              have lr : (List.range Y.length).length ≤ 24 := by rw [List.length_range]; exact h24
              refine sq_go fun S hS => ?_
              walk_at "d"
              have ri := rows_ix Y
              rw [ri]
              refine dLc_gA (fun i => stD (Y.getD i [])) (fun _ => true) (fun x => .lst (rowD Y.length (preB Y x))) (List.range Y.length) [] (by rw [List.length_nil]; omega) (fun _ _ e => by cases e) (fun x hx U C0 g1 _ => ?_) ?_
              · walk_at "d"
                refine dLc_gA (fun i => stD (Y.getD i [])) (fun _ => true) (fun y => .bl (preB Y x y)) (List.range Y.length) [] (by rw [List.length_nil]; omega) (fun _ _ e => by cases e) (fun y hy U2 C1 k1 _ => ?_) ?_
                · unfold stD
                  walk_at "d"
                  rw [nsD_len, cut_to, show (nsD (Y.getD y [])).take (Y.getD x []).length = nsD ((Y.getD y []).take (Y.getD x []).length) by unfold nsD; rw [List.map_take]]
                  exact ⟨shp_st _, shp_st _, k1 rfl _ _ rfl (congrArg D.bl (eq_st _ _))⟩
                · rw [List.nil_append, flt_true]
                  exact g1 rfl _ _ rfl rfl
              · rw [List.nil_append, flt_true, ← ri]
                refine hS _ ?_
                clear hS S
                walk_at "d"
                refine ⟨Y.length, preB Y, id, rfl, p, ?_⟩
                walk_at "d"
                exact ex_rows3 h24 (fun s hs => by have := sz s hs; omega) q
end
end Z

set_option Elab.async false
set_option linter.all false
set_option maxRecDepth 100000
namespace Z
open PySem L2
variable [TabsP]
local macro_rules | `(tactic| walk_at "side") => `(tactic| first | omega | (unfold CMul; omega) | (unfold CDiv; omega) | (unfold CDivN; omega) | (unfold CPow; omega) | decide)
local macro_rules | `(tactic| walk_at "lst") => `(tactic| first | exact SqL.of (by assumption) | exact SqL.of upd_same | assumption | exact upd_same)
local macro_rules | `(tactic| walk_at "r1") => `(tactic| first | refine ⟨_, rfl, ?_⟩ | refine ⟨_, _, rfl, rfl, ?_⟩ | refine Or.inl ⟨_, rfl, ?_⟩ | refine And.intro rfl ?_ | refine ⟨_, _, _, _, rfl, rfl, by walk_at "lst", rfl, ?_⟩ | refine ⟨_, _, rfl, Or.inl (by walk_at "lst"), ?_⟩ | refine And.intro (by walk_at "side") ?_)
local macro_rules | `(tactic| walk_at "r") => `(tactic| repeat walk_at "r1")
abbrev s_hand : Stmt := top 38
section
variable {P : Program} {w : World} {K : PySem.W.Frag} {mg : Str → Option Value} {base : Heap}
/-! ### the hand -/
theorem sc_hand : FnScope ["script", "total", "k", "cell"] ["script"] (defScope s_hand) := ⟨rfl, rfl, rfl, by decide +kernel, rfl, by decide +kernel, by decide +kernel⟩
theorem ok_hand {f : Addr} {fd : FuncData} (F : Fun K "_law_hand" "_law_hand" s_hand f fd) (T : Bl mg) : FnOk P w K mg base CX0 1 f fd ["script"] (spHand K) := by
  refine F.ok sc_hand (fun vs H Q E h => ?_) (fun cdv A outer s H vs Q E hr h => ?_)
  · obtain ⟨a, ns, rfl, _⟩ := h
    rfl
  · obtain ⟨a, ns, rfl, hs, hl, k⟩ := h
    refine ⟨_,
      (pss_cons (ps_set (i := 1) sc_hand.nd rfl (Or.inl rfl) pe_int)
      (pss_cons (ps_for PassesOwn.never rfl (pi_enum (by rfl) T.n_enumerate (pa_cons (pv 0) pa_nil)) (pg_tup (by rfl) (pgs_cons (pg_name (i := 2) sc_hand.nd rfl (Or.inl rfl)) (pgs_cons (pg_name (i := 3) sc_hand.nd rfl (Or.inl rfl)) pgs_nil)))
        (pss_one (ps_set (i := 1) sc_hand.nd rfl (Or.inl rfl) (pe_op op_mod (pe_callTy call_int1 (by rfl) T.n_int (by decide +kernel) (pa_cons (pe_op op_add (pe_op op_mul (pv 1) pe_int) (pe_op op_mul (pe_callTy call_int1 (by rfl) T.n_int (by decide +kernel) (pa_cons (pv 3) pa_nil)) (pe_op op_add (pv 2) pe_int))) pa_nil)) pe_int))))
      (pss_one (ps_ret (pe_lst (pa_cons (pe_lc (own := [("cell", 3)]) (by rfl) sc_hand.nd (kpi_list K (pv 0)) (blkOk_by (own := [("cell", 3)]) (by show blkC ["script", "total", "k", "cell"] (defScope s_hand) _ _ = true; decide +kernel)) (fun _ _ _ _ _ => (pg_name (i := 3) sc_hand.nd rfl (Or.inl rfl))) (fun _ _ _ _ _ => pts_nil) (fun _ _ _ _ _ => (pe_callB call_abs (by rfl) T.n_abs (by decide +kernel) (pa_cons (pe_callTy call_int1 (by rfl) T.n_int (by decide +kernel) (pa_cons (pv 3) pa_nil)) pa_nil)))) (pa_cons pe_int (pa_cons pe_int (pa_cons (pv 1) pa_nil)))))))))
      , ?_⟩
    have getN : ∀ {i : Nat} {x : V}, (ns.map V.int)[i]? = some x → ∃ z, ns[i]? = some z ∧ x = .int z := fun {i x} e => by
      rw [List.getElem?_map] at e
      cases q : ns[i]? with
      | none =>
        rw [q] at e
        cases e
      | some z =>
        rw [q] at e
        exact ⟨z, rfl, (Option.some.inj e).symm⟩
    walk_at "r"
    refine ⟨a, _, rfl, hs, for_it (walk_enum (K := K) (a := a) (xs := ns.map V.int)) (fun i σ H' => ∃ (t : Int) (v w : Option V), σ = [some (.ref a), some (.int t), v, w] ∧ Same H H' ∧ 0 ≤ t ∧ t < 2147483549)
      ⟨0, none, none, rfl, Same.refl _, by omega, by omega⟩ (fun i σ H' _ q => by
        obtain ⟨t, v, w, _, s1, _⟩ := q
        exact s1.seq hs) ?_ ?_⟩
    · rintro i v σ H1 H2 hi ⟨t, v1, w1, rfl, s1, t0, t1⟩ y
      obtain ⟨T', x, y, rfl, hT, rfl, ex, ey⟩ := y
      cases ex
      obtain ⟨z, hz, rfl⟩ := getN ey
      have hi63 : i < 63 := by
        have := (List.getElem?_eq_some_iff.mp hz).1
        omega
      refine ⟨T', _, rfl, SqT.of upd_same, rfl, _, _, rfl, _, _, rfl, rfl, ?_⟩
      walk_at "r"
      exact ⟨_, _, _, rfl, s1.trans (same_new hT), Int.emod_nonneg _ (by omega), Int.emod_lt_of_pos _ (by omega)⟩
    · rintro σ H' ⟨t, v, w, rfl, s1, t0, t1⟩
      walk_at "r"
      refine ⟨⟨_, s1.seq hs⟩, fun D hD => lc_list (K := K) (a := a) (xs := ns.map V.int) (fun j H2 => ∃ cs : List Int, Same H' H2 ∧ H2 D = some (.lst (cs.map V.int)) ∧ cs.length = j ∧ ∀ c ∈ cs, 0 ≤ c) ⟨[], same_new hD, upd_same, rfl, fun _ h => nomatch h⟩ (fun j H2 _ q => by
        obtain ⟨cs, s2, _⟩ := q
        exact s2.seq (s1.seq hs)) ?_ ?_⟩
      · rintro j x H2 hx ⟨cs, s2, e2, el, hc⟩
        obtain ⟨z, hz, rfl⟩ := getN hx
        have hj : j < 63 := by
          have := (List.getElem?_eq_some_iff.mp hz).1
          omega
        refine ⟨rfl, ?_⟩
        refine ⟨_, rfl, .inl ⟨_, rfl, ?_⟩⟩
        refine ⟨_, rfl, _, e2, small1000 (by rw [List.length_map]; omega), cs ++ [if z < 0 then -z else z], same_mut s2 hD, ?_, ?_, ?_⟩
        · rw [upd_same, List.map_append]
          rfl
        · rw [List.length_append, el]
          rfl
        · intro c hc'
          rcases List.mem_append.mp hc' with h | h
          · exact hc c h
          · have e : c = if z < 0 then -z else z := by simpa using h
            rw [e]
            split <;> omega
      · rintro H2 ⟨cs, s2, e2, el, hc⟩
        have hD' : H D = none := s1.free hD
        walk_at "r"
        refine ⟨by show 4 ≤ sizeLine; decide, fun p hp => ?_⟩
        have hp' : H p = none := (s1.trans s2).free hp
        have ne : D ≠ p := ne_of_none e2 hp
        refine k p D _ ((s1.trans s2).trans (same_new hp)) ⟨cs, 0, 0, t, upd_same, by rw [upd_ne ne]; exact e2, ne, by rw [List.length_map] at el; omega, hc, by omega, by omega, t0, t1⟩ hp' hD'
end
end Z

set_option Elab.async false
set_option linter.all false
set_option maxRecDepth 100000
namespace Z
open PySem L2
variable [TabsP]
local macro_rules | `(tactic| walk_at "d") => `(tactic| simp only [dSq, dIf, dOr, dAnd, dNot, dTT, dTB, dUn, dBin, dVar, dC, dRet, dNext, dOrV, dAndV, dNotT, dIfE, isiD, OV.isOwn, startD, List.map_cons, List.map_nil, List.cons_append, List.nil_append, List.append_nil, List.length_cons, List.length_nil, List.replicate, Nat.reduceAdd, Nat.reduceSub, Nat.sub_self, Nat.add_sub_cancel,
  List.getElem?_cons_zero, List.getElem?_cons_succ, bOk, iv_d, iv_n, iv_v, nr_d, nr_n, List.any_cons, List.any_nil, Bool.or_false, Bool.or_true, Bool.false_eq_true, Bool.not_true, Bool.not_false, false_implies, true_and, and_true, if_true, if_false, ite_true, ite_false, forall_const, reduceIte, reduceCtorEq,
  d0_1, dI_1, ad_i, ad_t, ad_l, ng_1, dCa, dCall0, dCons, dNil, dTup, dLst, dEq, dSeq, dRange, dEnum, dRg1, dRg2, dListRg, dTupRg, dSl, dONone, dOSome, dCall, mv_d, mv_n, mv_v, nn_n, nn_b, nn_i, nn_s, nn_l, nn_t, nn_x, nn_d, dSetF, dSetO, dDrop, dFor, dgName, dgTup, dgCons, dgNil, dRetN, dYes, it_1, pm_1, nmR, dXf, dIsE, sq_l, sq_t, sq_x, tr_n, tr_b, tr_i, tr_l, tr_t, tr_x, tr_d, vl_d, vl_n, vl_v, fr_d, fr_o, fr_k, sl_l, sl_t, sl_x, le_1, li_1, tu_1, tu_l, tu_t, tu_x, tx_1, tx_l, tx_t, tx_x, rr_d, rr_n, rr_v, in_1, ix_1, dt_1, isB_1, dCallT, dIdx, dRaise, dAsg, dDnew, List.set_cons_zero, List.set_cons_succ, noOwnAt, List.all_cons, List.all_nil, wipeE, lent, hasOwn, Option.map_some, Option.map_none, dLc, lt_n, pl_n, tyB_n, tyI_n, tyS_n, tyL_n, tyT_n, lt_b, pl_b, tyB_b, tyI_b, tyS_b, tyL_b, tyT_b, lt_i, pl_i, tyB_i, tyI_i, tyS_i, tyL_i, tyT_i, lt_s, pl_s, tyB_s, tyI_s, tyS_s, tyL_s, tyT_s, lt_l, pl_l, tyB_l, tyI_l, tyS_l, tyL_l, tyT_l, lt_t, pl_t, tyB_t, tyI_t, tyS_t, tyL_t, tyT_t, lt_x, pl_x, tyB_x, tyI_x, tyS_x, tyL_x, tyT_x, lt_d, pl_d, tyB_d, tyI_d, tyS_d, tyL_d, tyT_d, noL, noLA, Bool.and_true, Bool.true_and])
local macro_rules | `(tactic| walk_at "e") => `(tactic| first | exact ⟨_, rfl, rfl⟩ | rfl)
abbrev s_law : Stmt := top 47
section
variable {P : Program} {w : World} {K : PySem.W.Frag} {mg : Str → Option Value} {base : Heap}
theorem sc_law : FnScope ["script", "hand", "turn"] ["script"] (defScope s_law) := ⟨rfl, rfl, rfl, by decide +kernel, rfl, by decide +kernel, by decide +kernel⟩
theorem law_body {f : Addr} (T : Bl mg) (c_law_hand : Cal P w K mg base CX0 "_law_hand" 1 (spHand K)) (c_law_simple : Cal P w K mg base CX0 "_law_simple" 10 (spD K wHT)) (c_law_facts : CalQ P w K mg base "_law_facts" 10 (spD K wHT)) (c_law_facts_refused : Cal P w K mg base CX0 "_law_facts_refused" 10 (spD K wHT)) (c_law_words : Cal P w K mg base CX0 "_law_words" 10 (spD K wHT))
    (cdv : Value) (s : Shared) (H : Hp) (vs : List V) (Q : VK) (E : XK) (hr : Room 11 (callerA.deeper (PyProof.Rows.envOfC "law" (defScope s_law) s.heap.objs.size f cdv))) (h : spLaw K vs H Q E) :
    ∃ t, PSs (cxOf CX0 P w K mg base ["script", "hand", "turn"] "law" (defScope s_law) f cdv callerA [] s H E).nox (defBody s_law) t ∧ t { nx := fun _ H' => Q .non H', rt := Q } (L2.start ["script", "hand", "turn"] vs) H := by
  obtain ⟨a, ns, rfl, sq, hl, k⟩ := h
  refine law_go (n := 1) (ps_set (i := 1) sc_law.nd rfl (Or.inl rfl) (pe_cal c_law_hand (hr.mono (by decide)) (by rfl) (pa_cons (pv 0) pa_nil))) (fun md F0 H0 a0 =>
      (dss_cons (ds_for PassesOwn.never rfl (di_range1 (by rfl) T.n_range de_int) (dg_name (i := 2) sc_law.nd rfl (Or.inl rfl))
        (dss_one (ds_if (DWs.ts (dw_or (dt_not (dt_truth K (de_call c_law_simple (hr.mono (by decide)) (by rfl) (da_cons (de_var (pv 1)) da_nil)))) (dw_or (dt_not (dt_truth K (de_callG c_law_facts rfl (hr.mono (by decide)) (by rfl) (da_cons (de_var (pv 1)) da_nil)))) (dw_or (dt_not (dt_truth K (de_call c_law_facts_refused (hr.mono (by decide)) (by rfl) (da_cons (de_var (pv 1)) da_nil)))) (dw_or1 (dt_not (dt_truth K (de_call c_law_words (hr.mono (by decide)) (by rfl) (da_cons (de_var (pv 1)) da_nil)))))))))
          (dss_one (ds_ret de_bl))
          dss_nil)))
      (dss_one (ds_ret de_bl)))
      ) (fun DE0 hD => ?_) sq hl k
  unfold List.replicate
  walk_at "d"
  refine ⟨r62_0, ⟨by decide, by decide⟩, dFor_ind (fun es ρ => ∃ o : Option OV, ρ = [none, some (OV.dat .hnd), o]) ?_ ?_ _ _ ⟨_, rfl⟩⟩
  · rintro ρ ⟨o, rfl⟩
    exact hD
  · rintro x es C ρ ⟨o, rfl⟩ hC
    walk_at "d"
    refine ⟨rfl, ?_⟩
    walk_at "d"
    refine ⟨rfl, ?_⟩
    walk_at "d"
    refine ⟨rfl, ?_⟩
    walk_at "d"
    refine ⟨rfl, ?_⟩
    walk_at "d"
    exact hC _ ⟨_, rfl⟩
end
end Z

set_option Elab.async false
set_option linter.all false
set_option maxRecDepth 100000
set_option maxHeartbeats 2100000
namespace Z
open PySem L2
variable [TabsP]
open PySem.Spec PyProof.Rows
/-! ### the law's own def, called where no text is being made of an object that holds itself -/
def RunAt (P : Program) (w : World) (K : PySem.W.Frag) (mg : Str → Option Value) (base : Heap) (fa : Addr) (fd : FuncData) (ps : List Str) (sp : Sp) : Prop :=
  ∀ (s : Shared) (H : Hp) (args : Args) (us : List Value) (vs : List V) (Q : VK) (E : XK), Env0 P w K mg base callerA [] s H → BindsTo s fd args (ps.zip us) → Vals vs us → sp vs H Q E → codeAny (model P w) callerA (.call (.ref fa) args) (CR CX0 [] P w H s Q E) s
/-- the heap H says nothing but of the script: the run from there -/
theorem run_head {P : Program} {w : World} {K : PySem.W.Frag} {mg mb : Str → Option Value} {fa sc : Addr} {fd : FuncData} {x : Str} {sp : Sp} {st : Shared} {us : List Value} {H : Hp}
    (inK : K.In st.heap) (globs : st.heap.Ns mainGlobals mg) (bns : st.heap.Ns builtinsNs mb) (same : ∀ y : Str, y ≠ "__name__" → mb y = bootBuiltins y) (nolim : st.heap.NoLimit) (nogen : st.gens = #[])
    (here : st.heap.get? sc = some { cls := .type "list", data := .seq us.toArray }) (F : ∀ base : Heap, K.In base → base.Ns mainGlobals mg → RunAt P w K mg base fa fd [x] sp) (binds : ∀ (s : Shared) (v : Value), BindsTo s fd ⟨[v], []⟩ [(x, v)])
    (want : sp [.ref sc] H (fun v _ => v = .bl true) fun _ _ _ => False) (only : Only H) (hok : HOk P w H st.heap) (just : ∀ b, H b ≠ none → b = sc) (apart : H sc ≠ none → K.lookup sc = none) :
    codeAny (model P w) callerA (.call (.ref fa) ⟨[.ref sc], []⟩) (fun res s2 => res = .ok (.ret (.bool true)) ∧ OldK st.heap s2.heap ∧ s2.os = st.os ∧ AllBare s2.gens) st := by
  have none_of : ∀ {b : Addr} {o : Obj}, st.heap.get? b = some o → (H b ≠ none → st.heap.get? sc = some o → False) → H b = none := fun {b o} got no => by
    by_cases hb : H b = none
    · exact hb
    · have eb := just b hb
      subst eb
      exact absurd got fun got => no hb got
  have nsH : ∀ {b : Addr} {m : Str → Option Value}, st.heap.Ns b m → (hidT st.heap H).Ns b m := fun {b m} ns => by
    obtain ⟨o, ents, ep, got, dat, rest⟩ := ns
    refine ⟨o, ents, ep, hidT_get got (none_of got fun _ g2 => ?_), dat, rest⟩
    rw [here] at g2
    cases g2
    have bad : Data.seq us.toArray _ = Data.dict ents ep := dat
    cases bad
  have inH : K.In (hidT st.heap H) := fun b o lk => hidT_get (inK b o lk) (by
    by_cases hb : H b = none
    · exact hb
    · have eb := just b hb
      subst eb
      rw [apart hb] at lk
      cases lk)
  have modH : Mod K mg (hidT st.heap H) := ⟨inH, nsH globs, ⟨mb, nsH bns, same⟩, by
    obtain ⟨mc, c1, c2⟩ := nolim
    exact ⟨mc, nsH c1, c2⟩⟩
  have begin0 : Env0 P w K mg (hidT st.heap H) callerA [] st H := ⟨rfl, modH, fun b o e => of_hidT e, Nat.le_of_eq (hidT_size _ _), trivial, (fun b hb => by cases hb), hok, .of_eq nogen⟩
  refine codeAny_mono (F _ inH (nsH globs) st H ⟨[.ref sc], []⟩ [.ref sc] [.ref sc] _ _ begin0 (binds st (.ref sc)) (.cons rfl .nil) want) fun res s2 got => ?_
  match res, got with
  | .error er, got => exact False.elim got
  | .ok .next, got => exact False.elim got
  | .ok .brk, got => exact False.elim got
  | .ok .cont, got => exact False.elim got
  | .ok (.ret u), got =>
    obtain ⟨v, H2, same2, bare2, un2, hok2, rel2, isT⟩ := got
    have isT2 : v = .bl true := isT
    subst isT2
    cases (show u = Value.bool true from rel2)
    refine ⟨rfl, OldK.of_keep fun b o was => ?_, same2, bare2⟩
    by_cases hb : H b = none
    · exact un2.keep b o was hb (fun z => by cases z) (by simp)
    · rcases only b with z | ⟨ob, xs, z⟩
      · exact absurd z hb
      · have then2 := un2.frzs b ob _ z
        obtain ⟨g1, _⟩ := hok b _ z
        obtain ⟨g2, _⟩ := hok2 b _ then2
        rw [was] at g1
        cases g1
        exact g2
theorem run_call {P : Program} {w : World} {K : PySem.W.Frag} {mg mb : Str → Option Value} {fa sc : Addr} {fd : FuncData} {x : Str} {sp : Sp} {st : Shared} {us : List Value} {zs : List Int}
    (inK : K.In st.heap) (globs : st.heap.Ns mainGlobals mg) (bns : st.heap.Ns builtinsNs mb) (same : ∀ y : Str, y ≠ "__name__" → mb y = bootBuiltins y) (nolim : st.heap.NoLimit) (nogen : st.gens = #[])
    (here : st.heap.get? sc = some { cls := .type "list", data := .seq us.toArray }) (intsA : IntsAre us zs) (short : zs.length ≤ sizeLine) (F : ∀ base : Heap, K.In base → base.Ns mainGlobals mg → RunAt P w K mg base fa fd [x] sp) (binds : ∀ (s : Shared) (v : Value), BindsTo s fd ⟨[v], []⟩ [(x, v)])
    (want : ∀ H : Hp, Only H → SqL K H sc (zs.map V.int) → sp [.ref sc] H (fun v _ => v = .bl true) fun _ _ _ => False) :
    codeAny (model P w) callerA (.call (.ref fa) ⟨[.ref sc], []⟩) (fun res s2 => res = .ok (.ret (.bool true)) ∧ OldK st.heap s2.heap ∧ s2.os = st.os ∧ AllBare s2.gens) st := by
  have rels := vals_ints intsA
  have lens := intsA.length
  by_cases hk : K.lookup sc = none
  · have at_ : ∀ b : Addr, (if b = sc then some (HO.frz { cls := .type "list", data := .seq us.toArray } (.lst (zs.map V.int))) else none) ≠ none → b = sc := fun b hb => by
      by_cases eb : b = sc
      · exact eb
      · rw [if_neg eb] at hb
        exact absurd rfl hb
    have only : Only (fun b => if b = sc then some (.frz { cls := .type "list", data := .seq us.toArray } (.lst (zs.map V.int))) else none) := fun b => by
      by_cases eb : b = sc
      · exact .inr ⟨_, _, if_pos eb⟩
      · exact .inl (if_neg eb)
    refine run_head inK globs bns same nolim nogen here F binds (want _ only (.inl (.inr ⟨{ cls := .type "list", data := .seq us.toArray }, if_pos rfl⟩))) only (fun b u z => ?_) at_ fun _ => hk
    by_cases eb : b = sc
    · have z2 := (if_pos eb).symm.trans z
      cases z2
      subst eb
      exact ⟨here, by rw [List.length_map]; exact short, us, _, rels, here⟩
    · have z2 := (if_neg eb).symm.trans z
      cases z2
  · obtain ⟨o, ho⟩ := Option.ne_none_iff_exists'.mp hk
    have same_o := inK sc o ho
    rw [here] at same_o
    cases same_o
    have only : Only (fun _ : Addr => (none : Option HO)) := fun _ => .inl rfl
    exact run_head inK globs bns same nolim nogen here F binds (want _ only (.inr ⟨_, us.toArray, _, ho, rfl, rfl, rfl, by rw [List.size_toArray, lens]; exact short, by simpa using rels⟩)) only (fun b u z => by cases z) (fun b z => absurd rfl z) fun z => absurd rfl z
theorem run_walk {l : PySem.W.OpenLaw} {n : Nat} {q : Program} {loose : List Str} {XP : (Str → Option Value) → Heap → Prop} {YP : World → Heap → Prop} {d : DefRec} {K : Params → PySem.W.Frag} {sp : World → Sp} {x : Str}
    (most : l.most = some n) (small : n ≤ sizeLine) (plain : d.params.defaults = []) (inK : ∀ (w : World) (h : Heap), YP w h → (K w.params).In h)
    (F : ∀ (w : World) (mg : Str → Option Value) (fa : Addr) (h : Heap), (K w.params).In h → h.Ns mainGlobals mg → mg d.name = some (.ref fa) →
      ∃ fd : FuncData, (∀ (s : Shared) (v : Value), BindsTo s fd ⟨[v], []⟩ [(x, v)]) ∧ ∀ base : Heap, (K w.params).In base → base.Ns mainGlobals mg → RunAt l.prog w (K w.params) mg base fa fd [x] (sp w))
    (want : ∀ (w : World) (H : Hp) (a : Addr) (zs : List Int), zs.length ≤ n → Only H → SqL (K w.params) H a (zs.map V.int) → sp w [.ref a] H (fun v _ => v = .bl true) fun _ _ _ => False) :
    PySem.W.WalkO q loose XP YP l.row.toRowW d [] (fun f vs => PySem.call f vs) := by
  refine Att.attach_call most plain fun w _ st mg mb fa o pm cd doc a us zs G Y _ _ _ named here intsA short nogen => ?_
  have KX := inK w _ Y
  obtain ⟨fd, binds, runs⟩ := F w mg fa _ KX G.T.g named
  exact run_call KX G.T.g G.T.b G.T.builtins G.T.nolimit nogen here intsA (Nat.le_trans short small) runs binds fun H only sq => want w H a zs short only sq
/-- a def's body, run by that caller -/
theorem run_def {P : Program} {w : World} {K : PySem.W.Frag} {mg : Str → Option Value} {base : Heap} {k : Nat} {x qual : Str} {st : Stmt} {f : Addr} {fd : FuncData} {N ps : List Str} {sp : Sp} (D : Fun K x qual st f fd) (S : FnScope N ps (defScope st)) (len : ∀ vs H Q E, sp vs H Q E → vs.length = ps.length) (room : Room (k + 1) callerA)
    (body : ∀ (cdv : Value) (s : Shared) (H : Hp) (vs : List V) (Q : VK) (E : XK), Room k (callerA.deeper (PyProof.Rows.envOfC qual (defScope st) s.heap.objs.size f cdv)) → sp vs H Q E →
      ∃ t, PSs (cxOf CX0 P w K mg base N qual (defScope st) f cdv callerA [] s H E).nox (defBody st) t ∧ t { nx := fun _ H' => Q .non H', rt := Q } (start N vs) H) : RunAt P w K mg base f fd ps sp := by
  obtain ⟨oc, od, kV, doc, pm, an, cdv, ct, osl, rfl, lk, code⟩ := D.ex
  intro s H args us vs Q E begin0 binds rels want
  have many := len _ _ _ _ want
  have inK : K.In s.heap := begin0.mod.kin.keeps fun b o e => (begin0.bs b o e).1
  have nolim : s.heap.NoLimit := begin0.mod.nolimit.keeps fun b o e => (begin0.bs b o e).1
  have kinds : ∀ y ∈ ps.zip us, (defScope st).names.lookup y.1 = some .local ∨ ((defScope st).names.lookup y.1 = some .cell ∧ ((cellsFrom (s.heap.objs.size + 1) (defScope st).names []).lookup y.1).isSome = true) := fun y hy => by
    rcases S.par y.1 (List.of_mem_zip (a := y.1) (b := y.2) hy).1 with loc | cel
    · exact .inl loc
    · exact .inr ⟨cel, PySem.W.cellsFrom_some _ _ _ (.inl cel)⟩
  refine codeAny_call_function room.depth (inK _ _ lk) rfl S.co S.gen rfl (PySem.W.codeRec_of inK code) (binds _ _ _ _ ?_)
  refine wpAny_newFunctionEnv_cells S.kind kinds fun env henv s1 made => ?_
  subst henv
  refine ⟨nolim.keeps made.toInCall.keep, codeAny_func ?_⟩
  obtain ⟨t, ht, goes⟩ := body cdv s H vs Q E (room.deeper _) want
  have inv : Inv (cxOf CX0 P w K mg base N qual (defScope st) f cdv callerA [] s H E) [] (start N vs) H s1 := inv_start S room.hd begin0 many rels made
  refine wpAny_mono (ht.nox.run [] s1 (start N vs) H _ inv goes) (fun fl s2 hs => ?_) fun e s2 hs => hs
  match fl, hs with
  | .ret u, ⟨v, σ2, H2, inv2, rv, got⟩ => exact ⟨v, H2, inv2.os, inv2.bare, inv2.base, inv2.hok, rv, got⟩
  | .next, ⟨σ2, H2, inv2, got⟩ => exact ⟨V.non, H2, inv2.os, inv2.bare, inv2.base, inv2.hok, rfl, got⟩
  | .brk, ⟨_, _, _, got⟩ => exact False.elim got
  | .cont, ⟨_, _, _, got⟩ => exact False.elim got
end Z

set_option Elab.async false
set_option linter.all false
set_option maxRecDepth 100000
set_option maxHeartbeats 2100000
namespace Z
open PySem L2
variable [TabsP]
open PySem.Spec PyProof.Rows
/-! ### what the top has written -/
theorem fun_of {K : PySem.W.Frag} {x q : Str} {st : Stmt} {f : Addr} {fd : FuncData} (F : FunD K x q (defArgs st) (defBody st) (defScope st) [] [] f fd) : Fun K x q st f fd := by
  obtain ⟨oc, od, dV, kV, doc, pm, an, cdv, ct, osl, e, lk, hcd, hD, hK⟩ := F.ex
  rcases hD with ⟨_, rfl⟩ | ⟨z, _⟩
  · exact ⟨⟨oc, od, kV, doc, pm, an, cdv, ct, osl, e, lk, hcd⟩, F.kp⟩
  · exact absurd rfl z
/-- the class at C: an exception's, of ValueError's line -/
def exB1 (K : PySem.W.Frag) (C : Addr) : Bool :=
  match K.lookup C with
  | some ⟨.type "type", _, .cls cd, sl⟩ =>
    (match cd.mro, sl.toList with
    | .ref D :: bm, [_, _, _, _, some (.builtin n), _] => (D == C) && ((n == "ValueError.__new__") && (!cd.hasDel && (cd.hasDict && PySem.HandSPX.refsVE bm)))
    | _, _ => false)
  | _ => false
theorem exB1_ok {K : PySem.W.Frag} {C : Addr} (h : exB1 K C = true) : ∃ nm q N bs bm sn sub ab col dd k0 k1 k2 k3 k5, K.lookup C = some (excClassObj nm q C N bs bm true sn sub ab col dd k0 k1 k2 k3 k5 "ValueError.__new__") ∧ PySem.HandSPX.refsVE bm = true := by
  unfold exB1 at h
  split at h
  · rename_i dd cd sl ho
    split at h
    · rename_i D bm k0 k1 k2 k3 n k5 hm hs
      simp only [Bool.and_eq_true, beq_iff_eq, Bool.not_eq_true'] at h
      obtain ⟨rfl, rfl, h1, h2, h3⟩ := h
      obtain ⟨nm, bs, mro, ns, qn, hd, sn, sub, ab, col, del⟩ := cd
      dsimp only at hm h1 h2
      subst hm h1 h2
      have e : sl = #[k0, k1, k2, k3, some (.builtin "ValueError.__new__"), k5] := by
        obtain ⟨l⟩ := sl
        simp only at hs
        rw [hs]
      subst e
      exact ⟨nm, qn, ns, bs, bm, sn, sub, ab, col, dd, k0, k1, k2, k3, k5, ho, h3⟩
    · cases h
  · cases h
theorem all_at {l : List Bool} (h : l.all id = true) (i : Nat) {b : Bool} (e : l[i]? = some b) : b = true := List.all_eq_true.mp h b (List.mem_of_getElem? e)
/-! ### the getter of a property -/
structure GetD where
  cls : Str
  prop : Str
  qual : Str
  params : Arguments
  body : List Stmt
  scope : Scope
/-- the address of the getter -/
def pgA (K : PySem.W.Frag) (c p : Str) : Addr := match PySem.W.recIn K (He.ma K (He.ga K c) p) "property" with
  | some (.ref g :: _) => g
  | _ => 0
def fnWA (K : PySem.W.Frag) (a : Addr) : He.FnW := match K.lookup a with
  | some ⟨_, _, .func fd, _⟩ => some (fd.name, fd.qualname, fd.params, fd.body, fd.scope, fd.globals, fd.closure, fd.builtins)
  | _ => none
def GetD.val (d : GetD) : He.FnW := some (d.prop, d.qual, d.params, .stmts d.body, d.scope, mainGlobals, [], builtinsNs)
def GetD.ok (K : PySem.W.Frag) (d : GetD) : Bool :=
  He.eqO (PySem.W.findIn K (.ref (He.ga K d.cls)) d.prop) (some (some (.ref (He.ma K (He.ga K d.cls) d.prop)))) && (He.eqO (PySem.W.specialIn K (.ref (He.ma K (He.ga K d.cls) d.prop)) "__get__") (some (some (.builtin "property.__get__"))) &&
  (decide (PySem.W.takesIn K (.ref (He.ma K (He.ga K d.cls) d.prop)) = some true) && ((match PySem.W.recIn K (He.ma K (He.ga K d.cls) d.prop) "property" with
    | some (.ref _ :: _) => true
    | _ => false) && (PySem.W.keepIn K (.ref (pgA K d.cls d.prop)) && (match K.lookup (pgA K d.cls d.prop) with
  | some ⟨_, _, .func fd, _⟩ => PySem.W.codeIn K fd.code d.qual && (He.dflB K fd.defaults [] && He.kwdB K fd.kwdefaults [])
  | _ => false)))))
theorem GetD.prop_ {K : PySem.W.Frag} {d : GetD} (c : d.ok K = true) : PropOf K (He.ga K d.cls) d.prop (He.ma K (He.ga K d.cls) d.prop) (pgA K d.cls d.prop) := by
  obtain ⟨c1, c⟩ := He.ba c
  obtain ⟨c2, c⟩ := He.ba c
  obtain ⟨c3, c⟩ := He.ba c
  obtain ⟨c4, c⟩ := He.ba c
  refine ⟨He.eqO_ok c1, He.eqO_ok c2, of_decide_eq_true c3, ?_⟩
  unfold pgA
  split at c4
  · rename_i g rest e
    rw [e]
    exact ⟨rest, rfl⟩
  · cases c4
theorem GetD.funD {K : PySem.W.Frag} {d : GetD} (e : fnWA K (pgA K d.cls d.prop) = d.val) (c : d.ok K = true) : ∃ fd, FunD K d.prop d.qual d.params d.body d.scope [] [] (pgA K d.cls d.prop) fd := by
  obtain ⟨_, c⟩ := He.ba c
  obtain ⟨_, c⟩ := He.ba c
  obtain ⟨_, c⟩ := He.ba c
  obtain ⟨_, c⟩ := He.ba c
  obtain ⟨kp, c2⟩ := He.ba c
  unfold fnWA at e
  cases q : K.lookup (pgA K d.cls d.prop) with
  | none =>
    rw [q] at c2
    cases c2
  | some o =>
    obtain ⟨oc, od, dt, osl⟩ := o
    rw [q] at c2 e
    cases dt with
    | func fd =>
      obtain ⟨n1, n2, n3, n4, n5, n6, n7, n8, n9, n10, n11, n12, n13, n14, n15⟩ := fd
      have e2 : (some (n1, n2, n3, n4, n5, n6, n7, n15) : He.FnW) = some (d.prop, d.qual, d.params, .stmts d.body, d.scope, mainGlobals, [], builtinsNs) := e
      simp only [Option.some.injEq, Prod.mk.injEq] at e2
      obtain ⟨h1, h2, h3, h4, h5, h6, h7, h8⟩ := e2
      subst h1 h2 h3 h4 h5 h6 h7 h8
      have c3 : (PySem.W.codeIn K n13 d.qual && (He.dflB K n8 [] && He.kwdB K n9 [])) = true := c2
      obtain ⟨k1, k2⟩ := He.ba c3
      obtain ⟨k3, k4⟩ := He.ba k2
      exact ⟨_, ⟨oc, od, n8, n9, n10, n11, n12, n13, n14, osl, rfl, q, k1, He.dflB_ok k3, He.kwdB_ok k4⟩, kp⟩
    | _ => cases c2
/-! ### the Hook: facts by names, getters, and one Bool more -/
abbrev AlZ : Type := He.AlD × (Bool × List He.FnW)
def getsB (gt : List GetD) (ex : PySem.W.Frag → Bool) (K : PySem.W.Frag) : Bool × List He.FnW := ((gt.all fun d => d.ok K) && ex K, gt.map fun d => fnWA K (pgA K d.cls d.prop))
structure SaysZ (fa : List He.Fa) (fn : List He.DefD) (gt : List GetD) (ex : PySem.W.Frag → Bool) (K : PySem.W.Frag) : Prop where
  d : He.SaysD fa fn K
  g : getsB gt ex K = (true, gt.map GetD.val)
theorem SaysZ.more {fa : List He.Fa} {fn : List He.DefD} {gt : List GetD} {ex : PySem.W.Frag → Bool} {K : PySem.W.Frag} (c : SaysZ fa fn gt ex K) : ex K = true := by
  have : ((gt.all fun d => d.ok K) && ex K) = true := congrArg (·.1) c.g
  exact (He.ba this).2
theorem SaysZ.get_ {fa : List He.Fa} {fn : List He.DefD} {gt : List GetD} {ex : PySem.W.Frag → Bool} {K : PySem.W.Frag} (c : SaysZ fa fn gt ex K) (i : Nat) {d : GetD} (h : gt[i]? = some d := by rfl) : PropOf K (He.ga K d.cls) d.prop (He.ma K (He.ga K d.cls) d.prop) (pgA K d.cls d.prop) ∧ ∃ fd, FunD K d.prop d.qual d.params d.body d.scope [] [] (pgA K d.cls d.prop) fd := by
  have c1 : ((gt.all fun d => d.ok K) && ex K) = true := congrArg (·.1) c.g
  have c2 := List.all_eq_true.mp (He.ba c1).1 d (List.mem_of_getElem? h)
  have e : gt.map (fun d => fnWA K (pgA K d.cls d.prop)) = gt.map GetD.val := congrArg (·.2) c.g
  have e2 : (gt.map fun d => fnWA K (pgA K d.cls d.prop))[i]? = (gt.map GetD.val)[i]? := by rw [e]
  rw [List.getElem?_map, List.getElem?_map, h] at e2
  exact ⟨GetD.prop_ c2, GetD.funD (Option.some.inj e2) c2⟩
def obsZ (n : Nat) (fa : List He.Fa) (fn : List He.DefD) (gt : List GetD) (ex : PySem.W.Frag → Bool) (g : Addr → Option Obj) : AlZ := (He.obsD fa fn (He.frG g (He.asD g n)), getsB gt ex (He.frG g (He.asD g n)))
def hookZ (n : Nat) (fa : List He.Fa) (fn : List He.DefD) (gt : List GetD) (ex : PySem.W.Frag → Bool) : PySem.W.Hook where
  α := AlZ
  obs := fun s => obsZ n fa fn gt ex s.heap.get?
  val := fun _ => (He.valD fn, (true, gt.map GetD.val))
  says := fun _ h => ∃ K : PySem.W.Frag, K.In h ∧ SaysZ fa fn gt ex K
  of := fun _ _ e => ⟨_, He.frG_in, ⟨congrArg (fun z : AlZ => z.1) e, congrArg (fun z : AlZ => z.2) e⟩⟩
  keeps := fun _ _ _ ⟨K, hK, c⟩ k => ⟨K, PySem.W.Frag.In.keeps hK k, c⟩
theorem obsZ_eq {n : Nat} {fa : List He.Fa} {fn : List He.DefD} {gt : List GetD} {ex : PySem.W.Frag → Bool} {g : Addr → Option Obj} {s : Shared} (h : ∀ a, g a = s.heap.get? a) : obsZ n fa fn gt ex g = (hookZ n fa fn gt ex).obs s := by
  have e : g = s.heap.get? := funext h
  rw [e] <;> rfl
theorem run_walkE {l : PySem.W.OpenLaw} {n : Nat} {q : Program} {loose : List Str} {XP : (Str → Option Value) → Heap → Prop} {YP : World → Heap → Prop} {d : DefRec} {x : Str}
    (most : l.most = some n) (small : n ≤ sizeLine) (plain : d.params.defaults = [])
    (F : ∀ (w : World) (mg : Str → Option Value) (fa : Addr) (h : Heap), YP w h → h.Ns mainGlobals mg → mg d.name = some (.ref fa) →
      ∃ (K : PySem.W.Frag) (fd : FuncData) (sp : Sp), K.In h ∧ (∀ (s : Shared) (v : Value), BindsTo s fd ⟨[v], []⟩ [(x, v)]) ∧
        (∀ (H : Hp) (a : Addr) (zs : List Int), zs.length ≤ n → Only H → SqL K H a (zs.map V.int) → sp [.ref a] H (fun v _ => v = .bl true) fun _ _ _ => False) ∧
        ∀ base : Heap, K.In base → base.Ns mainGlobals mg → RunAt l.prog w K mg base fa fd [x] sp) :
    PySem.W.WalkO q loose XP YP l.row.toRowW d [] (fun f vs => PySem.call f vs) := by
  refine Att.attach_call most plain fun w _ st mg mb fa o pm cd doc a us zs G Y _ _ _ named here intsA short nogen => ?_
  obtain ⟨K, fd, sp, KX, binds, want, runs⟩ := F w mg fa _ Y G.T.g named
  exact run_call KX G.T.g G.T.b G.T.builtins G.T.nolimit nogen here intsA (Nat.le_trans short small) runs binds fun H only sq => want H a zs short only sq
/-! ### putting together -/
theorem cal_of {P : Program} {w : World} {K : PySem.W.Frag} {mg : Str → Option Value} {base : Heap} {CX : CXT} {x q : Str} {st : Stmt} {f : Addr} {fd : FuncData} {ps : List Str} {k : Nat} {sp : Sp} (F : Fun K x q st f fd) (g : mg x = some (.ref f)) (b : Binds K fd ps []) (ok : FnOk P w K mg base CX k f fd ps sp) : Cal P w K mg base CX x k sp := ⟨⟨f, fd, ps, g, F.kp, b, ok⟩⟩
theorem calg_of {P : Program} {w : World} {K : PySem.W.Frag} {mg : Str → Option Value} {base : Heap} {x q : Str} {st : Stmt} {f : Addr} {fd : FuncData} {ps : List Str} {k : Nat} {sp : SpG} (F : Fun K x q st f fd) (g : mg x = some (.ref f)) (b : Binds K fd ps []) (ok : GFn P w K mg base k f fd ps sp) : CalG P w K mg base x k sp := ⟨⟨f, fd, ps, g, F.kp, b, ok⟩⟩
theorem calm_of {P : Program} {w : World} {K : PySem.W.Frag} {mg : Str → Option Value} {base : Heap} {CX : CXT} {C : Addr} {m : Str} {f : Addr} {fd : FuncData} {ps : List Str} {k : Nat} {sp : Sp} (h : Meth K C m f) (b : Binds K fd ps []) (ok : FnOk P w K mg base CX k f fd ps sp) : CalM P w K mg base CX C m k sp := ⟨⟨f, fd, ps, h, b, ok⟩⟩
theorem calp_of {P : Program} {w : World} {K : PySem.W.Frag} {mg : Str → Option Value} {base : Heap} {CX : CXT} {C p : Addr} {m : Str} {g : Addr} {fd : FuncData} {ps : List Str} {k : Nat} {sp : Sp} (h : PropOf K C m p g) (b : Binds K fd ps []) (ok : FnOk P w K mg base CX k g fd ps sp) : CalP P w K mg base CX C m k sp := ⟨⟨p, g, fd, ps, h, b, ok⟩⟩
theorem mki_of {P : Program} {w : World} {K : PySem.W.Frag} {mg : Str → Option Value} {base : Heap} {CX : CXT} {x : Str} {C f : Addr} {fd : FuncData} {ps : List Str} {k : Nat} {sp : Sp} (g : mg x = some (.ref C)) (m : Mk K C f) (b : Binds K fd ps []) (ok : FnOk P w K mg base CX k f fd ps sp) : MkI P w K mg base CX x C k sp := ⟨⟨f, fd, ps, g, m, b, ok⟩⟩
theorem len3 {α : Type} {l : List α} (h : l.length = 3) : ∃ a b c, l = [a, b, c] := by
  match l, h with
  | [a, b, c], _ => exact ⟨a, b, c, rfl⟩
theorem len2 {α : Type} {l : List α} (h : l.length = 2) : ∃ a b, l = [a, b] := by
  match l, h with
  | [a, b], _ => exact ⟨a, b, rfl⟩
theorem len1 {α : Type} {l : List α} (h : l.length = 1) : ∃ a, l = [a] := by
  match l, h with
  | [a], _ => exact ⟨a, rfl⟩
theorem len0 {α : Type} {l : List α} (h : l.length = 0) : l = [] := List.length_eq_zero_iff.mp h
end Z

set_option Elab.async false
set_option linter.all false
set_option maxRecDepth 100000
set_option maxHeartbeats 2100000
namespace Z
open PySem L2
variable [TabsP]
open PySem.Spec PyProof.Rows LamX
/-! ### the head of a law some of whose defs make lambdas: code objects and their tables -/
abbrev emT : Obj := { cls := .none, data := .fields #[] }
theorem run_headT {P : Program} {w : World} {K : PySem.W.Frag} {mg mb : Str → Option Value} {fa sc : Addr} {fd : FuncData} {x : Str} {sp : Sp} {st : Shared} {us : List Value} {H : Hp} {cs : List (Addr × Addr)}
    (inK : K.In st.heap) (globs : st.heap.Ns mainGlobals mg) (bns : st.heap.Ns builtinsNs mb) (same : ∀ y : Str, y ≠ "__name__" → mb y = bootBuiltins y) (nolim : st.heap.NoLimit) (nogen : st.gens = #[])
    (bmain : ∃ (bm : Addr) (ob : Obj), mg "__builtins__" = some (.ref bm) ∧ bm ≠ builtinsNs ∧ st.heap.get? bm = some ob ∧ ob.cls = .type "module" ∧ ob.dict = some builtinsNs ∧ ob.data = .plain)
    (tabs : ∀ p ∈ cs, st.heap.get? p.2 = some emT ∧ K.lookup p.2 = none ∧ PySem.W.codeHdIn K p.1 p.2 = true)
    (here : st.heap.get? sc = some { cls := .type "list", data := .seq us.toArray }) (F : ∀ base : Heap, K.In base → base.Ns mainGlobals mg → (∀ p ∈ cs, TabB base mg p.1 p.2) → RunAt P w K mg base fa fd [x] sp) (binds : ∀ (s : Shared) (v : Value), BindsTo s fd ⟨[v], []⟩ [(x, v)])
    (want : sp [.ref sc] H (fun v _ => v = .bl true) fun _ _ _ => False) (hok : HOk P w H st.heap)
    (just : ∀ b u, H b = some u → (b = sc ∧ K.lookup sc = none ∧ ∃ o xs, u = .frz o xs) ∨ (st.heap.get? b = some emT ∧ K.lookup b = none ∧ u = .tbl #[] ∧ ∃ p ∈ cs, p.2 = b)) :
    codeAny (model P w) callerA (.call (.ref fa) ⟨[.ref sc], []⟩) (fun res s2 => res = .ok (.ret (.bool true)) ∧ OldK st.heap s2.heap ∧ s2.os = st.os ∧ AllBare s2.gens) st := by
  -- what is neither the script nor an empty table is hidden from H
  have off : ∀ {b : Addr} {o : Obj}, st.heap.get? b = some o → (∀ vs n, o.data ≠ .seq vs n) → o.data ≠ .fields #[] → H b = none := fun {b o} got n1 n2 => by
    cases hb : H b with
    | none => rfl
    | some u =>
      rcases just b u hb with ⟨rfl, _⟩ | ⟨e, _⟩
      · rw [here] at got
        cases got
        exact absurd rfl (n1 us.toArray 0)
      · rw [e] at got
        cases got
        exact absurd rfl n2
  have nsH : ∀ {b : Addr} {m : Str → Option Value}, st.heap.Ns b m → (hidT st.heap H).Ns b m := fun {b m} ns => by
    obtain ⟨o, ents, ep, got, dat, rest⟩ := ns
    exact ⟨o, ents, ep, hidT_get got (off got (fun vs n z => by rw [dat] at z; cases z) fun z => by rw [dat] at z; cases z), dat, rest⟩
  have inH : K.In (hidT st.heap H) := fun b o lk => hidT_get (inK b o lk) (by
    cases hb : H b with
    | none => rfl
    | some u =>
      rcases just b u hb with ⟨rfl, z, _⟩ | ⟨_, z, _⟩ <;> (rw [z] at lk; cases lk))
  have TB : ∀ p ∈ cs, TabB (hidT st.heap H) mg p.1 p.2 := fun p hp => by
    obtain ⟨t1, t2, t3⟩ := tabs p hp
    obtain ⟨bm, ob, b1, b2, b3, b4, b5, b6⟩ := bmain
    have gne : mainGlobals ≠ p.2 := fun z => by
      obtain ⟨o, ents, ep, got, dat, _⟩ := globs
      rw [z, t1] at got
      cases got
      cases dat
    refine ⟨PySem.W.codeHd_of_K inH t3, ⟨bm, ob, b1, b2, fun z => ?_, fun z => ?_, hidT_get b3 (off b3 (fun vs n z => by rw [b6] at z; cases z) fun z => by rw [b6] at z; cases z), b4, b5, b6⟩, gne⟩
    · obtain ⟨o, ents, ep, got, dat, _⟩ := globs
      rw [z, got] at b3
      cases b3
      rw [dat] at b6
      cases b6
    · rw [z, t1] at b3
      cases b3
      cases b6
  have modH : Mod K mg (hidT st.heap H) := ⟨inH, nsH globs, ⟨mb, nsH bns, same⟩, by
    obtain ⟨mc, c1, c2⟩ := nolim
    exact ⟨mc, nsH c1, c2⟩⟩
  have begin0 : Env0 P w K mg (hidT st.heap H) callerA [] st H := ⟨rfl, modH, fun b o e => of_hidT e, Nat.le_of_eq (hidT_size _ _), trivial, (fun b hb => by cases hb), hok, .of_eq nogen⟩
  refine codeAny_mono (F _ inH (nsH globs) TB st H ⟨[.ref sc], []⟩ [.ref sc] [.ref sc] _ _ begin0 (binds st (.ref sc)) (.cons rfl .nil) want) fun res s2 got => ?_
  match res, got with
  | .error er, got => exact False.elim got
  | .ok .next, got => exact False.elim got
  | .ok .brk, got => exact False.elim got
  | .ok .cont, got => exact False.elim got
  | .ok (.ret u), got =>
    obtain ⟨v, H2, same2, bare2, un2, hok2, rel2, isT⟩ := got
    have isT2 : v = .bl true := isT
    subst isT2
    cases (show u = Value.bool true from rel2)
    have each : ∀ b o, st.heap.get? b = some o → s2.heap.get? b = some o ∨ (o = emT ∧ (∃ p ∈ cs, p.2 = b) ∧ ∃ more : Array Value, s2.heap.get? b = some { cls := .none, data := .fields more }) := fun b o was => by
      cases hb : H b with
      | none => exact .inl (un2.keep b o was hb (fun z => by cases z) (by simp))
      | some u =>
        rcases just b u hb with ⟨_, _, ob, xs, rfl⟩ | ⟨e, _, rfl, hp⟩
        · have then2 := un2.frzs b ob _ hb
          obtain ⟨g1, _⟩ := hok b _ hb
          obtain ⟨g2, _⟩ := hok2 b _ then2
          rw [was] at g1
          cases g1
          exact .inl g2
        · rw [e] at was
          cases was
          obtain ⟨more, z⟩ := un2.tbls b #[] hb
          exact .inr ⟨rfl, hp, _, hok2 b _ z⟩
    refine ⟨rfl, ⟨fun b o was => ?_, fun b o was => ?_⟩, same2, bare2⟩
    · rcases each b o was with z | ⟨rfl, ⟨p, hp, rfl⟩, more, z⟩
      · exact .inl z
      · obtain ⟨t1, _, t3⟩ := tabs p hp
        exact .inr (.inl ⟨((PySem.W.codeHd_of_K inK t3).tab t1).isCodeTable, rfl, #[], more, rfl, by rw [Array.empty_append]; exact z⟩)
    · rcases each b o was with z | ⟨_, _, more, z⟩
      · exact ⟨o, z⟩
      · exact ⟨_, z⟩
theorem run_callT {P : Program} {w : World} {K : PySem.W.Frag} {mg mb : Str → Option Value} {fa sc : Addr} {fd : FuncData} {x : Str} {sp : Sp} {st : Shared} {us : List Value} {zs : List Int} {cs : List (Addr × Addr)}
    (inK : K.In st.heap) (globs : st.heap.Ns mainGlobals mg) (bns : st.heap.Ns builtinsNs mb) (same : ∀ y : Str, y ≠ "__name__" → mb y = bootBuiltins y) (nolim : st.heap.NoLimit) (nogen : st.gens = #[])
    (bmain : ∃ (bm : Addr) (ob : Obj), mg "__builtins__" = some (.ref bm) ∧ bm ≠ builtinsNs ∧ st.heap.get? bm = some ob ∧ ob.cls = .type "module" ∧ ob.dict = some builtinsNs ∧ ob.data = .plain)
    (tabs : ∀ p ∈ cs, st.heap.get? p.2 = some emT ∧ K.lookup p.2 = none ∧ PySem.W.codeHdIn K p.1 p.2 = true)
    (here : st.heap.get? sc = some { cls := .type "list", data := .seq us.toArray }) (intsA : IntsAre us zs) (short : zs.length ≤ sizeLine) (F : ∀ base : Heap, K.In base → base.Ns mainGlobals mg → (∀ p ∈ cs, TabB base mg p.1 p.2) → RunAt P w K mg base fa fd [x] sp) (binds : ∀ (s : Shared) (v : Value), BindsTo s fd ⟨[v], []⟩ [(x, v)])
    (want : ∀ H : Hp, (∀ p ∈ cs, H p.2 = some (.tbl #[])) → SqL K H sc (zs.map V.int) → sp [.ref sc] H (fun v _ => v = .bl true) fun _ _ _ => False) :
    codeAny (model P w) callerA (.call (.ref fa) ⟨[.ref sc], []⟩) (fun res s2 => res = .ok (.ret (.bool true)) ∧ OldK st.heap s2.heap ∧ s2.os = st.os ∧ AllBare s2.gens) st := by
  have rels := vals_ints intsA
  have lens := intsA.length
  have nsc : ∀ p ∈ cs, p.2 ≠ sc := fun p hp z => by
    have t := (tabs p hp).1
    rw [z, here] at t
    have z' : Data.seq us.toArray _ = Data.fields #[] := congrArg Obj.data (Option.some.inj t)
    cases z'
  let T : Hp := fun b => if b ∈ cs.map (·.2) then some (.tbl #[]) else none
  have Tt : ∀ p ∈ cs, T p.2 = some (.tbl #[]) := fun p hp => if_pos (List.mem_map.mpr ⟨p, hp, rfl⟩)
  have Tu : ∀ b u, T b = some u → u = .tbl #[] ∧ ∃ p ∈ cs, p.2 = b := fun b u e => by
    by_cases hb : b ∈ cs.map (·.2)
    · have z := (if_pos hb).symm.trans e
      cases z
      obtain ⟨p, hp, q⟩ := List.mem_map.mp hb
      exact ⟨rfl, p, hp, q⟩
    · have z := (if_neg hb).symm.trans e
      cases z
  have To : ∀ b u, T b = some u → st.heap.get? b = some emT ∧ K.lookup b = none ∧ u = .tbl #[] ∧ ∃ p ∈ cs, p.2 = b := fun b u e => by
    obtain ⟨rfl, p, hp, rfl⟩ := Tu b u e
    obtain ⟨t1, t2, _⟩ := tabs p hp
    exact ⟨t1, t2, rfl, p, hp, rfl⟩
  by_cases hk : K.lookup sc = none
  · let G : Hp := fun b => if b = sc then some (.frz { cls := .type "list", data := .seq us.toArray } (.lst (zs.map V.int))) else T b
    have Gs : G sc = some (.frz { cls := .type "list", data := .seq us.toArray } (.lst (zs.map V.int))) := if_pos rfl
    have Gn : ∀ b, b ≠ sc → G b = T b := fun b hb => if_neg hb
    refine run_headT (H := G) inK globs bns same nolim nogen bmain tabs here F binds (want _ (fun p hp => by rw [Gn _ (nsc p hp)]; exact Tt p hp) (.inl (.inr ⟨_, Gs⟩))) (fun b u z => ?_) fun b u z => ?_
    · by_cases eb : b = sc
      · subst eb
        rw [Gs] at z
        cases z
        exact ⟨here, by rw [List.length_map]; exact short, us, _, rels, here⟩
      · rw [Gn b eb] at z
        obtain ⟨t1, _, rfl, _⟩ := To b u z
        exact t1
    · by_cases eb : b = sc
      · subst eb
        rw [Gs] at z
        cases z
        exact .inl ⟨rfl, hk, _, _, rfl⟩
      · rw [Gn b eb] at z
        exact .inr (To b u z)
  · obtain ⟨o, ho⟩ := Option.ne_none_iff_exists'.mp hk
    have same_o := inK sc o ho
    rw [here] at same_o
    cases same_o
    refine run_headT (H := T) inK globs bns same nolim nogen bmain tabs here F binds (want _ Tt (.inr ⟨_, us.toArray, _, ho, rfl, rfl, rfl, by rw [List.size_toArray, lens]; exact short, by simpa using rels⟩)) (fun b u z => ?_) fun b u z => .inr (To b u z)
    obtain ⟨t1, _, rfl, _⟩ := To b u z
    exact t1
theorem run_walkT {l : PySem.W.OpenLaw} {n : Nat} {q : Program} {loose : List Str} {XP : (Str → Option Value) → Heap → Prop} {YP : World → Heap → Prop} {d : DefRec} {x : Str}
    (most : l.most = some n) (small : n ≤ sizeLine) (plain : d.params.defaults = [])
    (F : ∀ (w : World) (mg : Str → Option Value) (fa : Addr) (h : Heap), YP w h → h.Ns mainGlobals mg → mg d.name = some (.ref fa) →
      ∃ (K : PySem.W.Frag) (fd : FuncData) (sp : Sp) (cs : List (Addr × Addr)), K.In h ∧ (∀ p ∈ cs, h.get? p.2 = some emT ∧ K.lookup p.2 = none ∧ PySem.W.codeHdIn K p.1 p.2 = true) ∧ (∀ (s : Shared) (v : Value), BindsTo s fd ⟨[v], []⟩ [(x, v)]) ∧
        (∀ (H : Hp) (a : Addr) (zs : List Int), zs.length ≤ n → (∀ p ∈ cs, H p.2 = some (.tbl #[])) → SqL K H a (zs.map V.int) → sp [.ref a] H (fun v _ => v = .bl true) fun _ _ _ => False) ∧
        ∀ base : Heap, K.In base → base.Ns mainGlobals mg → (∀ p ∈ cs, TabB base mg p.1 p.2) → RunAt l.prog w K mg base fa fd [x] sp) :
    PySem.W.WalkO q loose XP YP l.row.toRowW d [] (fun f vs => PySem.call f vs) := by
  refine Att.attach_call most plain fun w _ st mg mb fa o pm cd doc a us zs G Y _ _ _ named here intsA short nogen => ?_
  obtain ⟨K, fd, sp, cs, KX, tabs, binds, want, runs⟩ := F w mg fa _ Y G.T.g named
  exact run_callT KX G.T.g G.T.b G.T.builtins G.T.nolimit nogen G.T.bmain tabs here intsA (Nat.le_trans short small) runs binds fun H tt sq => want H a zs short tt sq
/-! ### the Hook with tables -/
def exT (tf : List He.Defn) (ex : PySem.W.Frag → Bool) (g : Addr → Option Obj) (K : PySem.W.Frag) : Bool := ex K && He.tabsB g tf K
def obsW (n : Nat) (fa : List He.Fa) (fn : List He.DefD) (gt : List GetD) (tf : List He.Defn) (ex : PySem.W.Frag → Bool) (g : Addr → Option Obj) : AlZ := (He.obsD fa fn (He.frT g (He.asD g n)), getsB gt (exT tf ex g) (He.frT g (He.asD g n)))
def SaysW (fa : List He.Fa) (fn : List He.DefD) (gt : List GetD) (tf : List He.Defn) (ex : PySem.W.Frag → Bool) (h : Heap) (K : PySem.W.Frag) : Prop :=
  SaysZ fa fn gt ex K ∧ ∀ p ∈ tf, h.get? (He.cT K p).2 = some emT ∧ K.lookup (He.cT K p).2 = none ∧ PySem.W.codeHdIn K (He.cT K p).1 (He.cT K p).2 = true
theorem saysW_of {n : Nat} {fa : List He.Fa} {fn : List He.DefD} {gt : List GetD} {tf : List He.Defn} {ex : PySem.W.Frag → Bool} {h : Heap} (e : obsW n fa fn gt tf ex h.get? = (He.valD fn, (true, gt.map GetD.val))) : SaysW fa fn gt tf ex h (He.frT h.get? (He.asD h.get? n)) := by
  have c : SaysZ fa fn gt (exT tf ex h.get?) (He.frT h.get? (He.asD h.get? n)) := ⟨congrArg (fun z : AlZ => z.1) e, congrArg (fun z : AlZ => z.2) e⟩
  obtain ⟨m1, m2⟩ := He.ba (show (ex _ && He.tabsB h.get? tf _) = true from c.more)
  have g1 : ((gt.all fun d => d.ok (He.frT h.get? (He.asD h.get? n))) && exT tf ex h.get? (He.frT h.get? (He.asD h.get? n))) = true := congrArg (·.1) c.g
  refine ⟨⟨c.d, ?_⟩, fun p hp => ?_⟩
  · have g2 := congrArg (·.2) c.g
    show (((gt.all fun d => d.ok _) && ex _), _) = _
    rw [(He.ba g1).1, m1]
    exact congrArg (Prod.mk true) g2
  · obtain ⟨h3, h4⟩ := He.ba (List.all_eq_true.mp m2 p hp)
    cases q : h.get? (He.cT (He.frT h.get? (He.asD h.get? n)) p).2 with
    | none =>
      rw [q] at h4
      cases h4
    | some o =>
      rw [q] at h4
      exact ⟨by rw [He.emptyTab_eq h4], He.frT_none q h4, h3⟩
def hookW (n : Nat) (fa : List He.Fa) (fn : List He.DefD) (gt : List GetD) (tf : List He.Defn) (ex : PySem.W.Frag → Bool) : PySem.W.Hook where
  α := AlZ
  obs := fun s => obsW n fa fn gt tf ex s.heap.get?
  val := fun _ => (He.valD fn, (true, gt.map GetD.val))
  says := fun _ h => ∃ K : PySem.W.Frag, K.In h ∧ SaysW fa fn gt tf ex h K
  of := fun _ _ e => ⟨_, He.frT_in, saysW_of e⟩
  keeps := fun _ _ _ ⟨K, hK, c⟩ k => ⟨K, PySem.W.Frag.In.keeps hK k, c.1, fun p hp => ⟨k _ _ (c.2 p hp).1, (c.2 p hp).2⟩⟩
theorem obsW_eq {n : Nat} {fa : List He.Fa} {fn : List He.DefD} {gt : List GetD} {tf : List He.Defn} {ex : PySem.W.Frag → Bool} {g : Addr → Option Obj} {s : Shared} (h : ∀ a, g a = s.heap.get? a) : obsW n fa fn gt tf ex g = (hookW n fa fn gt tf ex).obs s := by
  have e : g = s.heap.get? := funext h
  rw [e] <;> rfl
theorem calq_of {P : Program} {w : World} {K : PySem.W.Frag} {mg : Str → Option Value} {base : Heap} {x q : Str} {st : Stmt} {f : Addr} {fd : FuncData} {ps : List Str} {k : Nat} {sp : Sp} (F : Fun K x q st f fd) (g : mg x = some (.ref f)) (b : Binds K fd ps []) (ok : FnOkG P w K mg base k f fd ps sp) : CalQ P w K mg base x k sp := ⟨⟨f, fd, ps, g, F.kp, b, ok⟩⟩
theorem code_is {K : PySem.W.Frag} {x q : Str} {ps : Arguments} {b : List Stmt} {sc : Scope} {dv : List V} {kw : List (Str × V)} {p : He.Defn} {fd : FuncData} (D : FunD K x q ps b sc dv kw (He.fAd K p) fd) : fd.code = .ref (He.cT K p).1 := by
  obtain ⟨oc, od, dV, kV, doc, pm, an, cdv, ct, osl, rfl, lk, hcd, hD, hK⟩ := D.ex
  obtain ⟨c, rfl⟩ := He.codeIn_ref hcd
  show Value.ref c = .ref (He.codeOf K p)
  rw [He.codeOf_eq lk rfl]
end Z

set_option Elab.async false
set_option linter.all false
set_option maxRecDepth 100000
set_option maxHeartbeats 2100000
namespace Z
open PySem L2
variable [TabsP]
open PySem.Spec PyProof.Rows
open He in
/-- of the classes -/
def exL (K : PySem.W.Frag) (A0 A1 A2 A3 I0 I1 : Addr) : List Bool :=
  [exB1 K A1,
   eqO (PySem.W.findIn K (.ref A1) "__setattr__") (some (some (.builtin "object.__setattr__"))),
   decide (PySem.W.subIn K (.ref A1) (.type "BaseException") = some true),
   decide (PySem.W.typeIn K (.ref A1) = some (.type "type")),
   PySem.W.keepIn K (.ref A1),
   xfB K A1,
   decide (PySem.W.typeIn K (.ref I0) = some (.type "function")),
   exB1 K A2,
   eqO (PySem.W.findIn K (.ref A2) "__setattr__") (some (some (.builtin "object.__setattr__"))),
   decide (PySem.W.subIn K (.ref A2) (.type "BaseException") = some true),
   decide (PySem.W.typeIn K (.ref A2) = some (.type "type")),
   PySem.W.keepIn K (.ref A2),
   xfB K A2,
   decide (PySem.W.typeIn K (.ref I1) = some (.type "function")),
   (PySem.W.clsIn K A2).isSome,
   eqO (PySem.W.findIn K (.ref A2) "__class__") (some (some (.builtin "object.__class__"))),
   decide (PySem.W.mroIn K A2 (.type "object") = some true),
   eqO (PySem.W.specialIn K (.builtin "object.__class__") "__get__") (some (some (.builtin "getset_descriptor.__get__"))),
   decide (PySem.W.takesIn K (.builtin "object.__class__") = some true),
   decide (PySem.W.exmOne K (.ref A2) (.ref A2) = some true),
   decide (PySem.W.kitOne K (.ref A2) (.ref A0) = some true),
   decide (PySem.W.kitOne K (.ref A2) (.type "ValueError") = some true),
   decide (PySem.W.kitOne K (.ref A2) (.ref A1) = some false),
   decide ((cT K ("facts_order", none)).2 ≠ (cT K ("_law_sets", none)).2)]
open He in
def exK (K : PySem.W.Frag) : Bool := (exL K (ga K "FrameError") (ga K "BadOrder") (ga K "BadMake") (ga K "Order") (ma K (ga K "BadOrder") "__init__") (ma K (ga K "BadMake") "__init__")).all id
end Z

set_option Elab.async false
set_option linter.all false
set_option maxRecDepth 100000
set_option maxHeartbeats 2100000
namespace Z
open PySem L2
variable [TabsP]
open PySem.Spec PyProof.Rows
def tfL : List He.Defn := [("facts_order", none), ("_law_sets", none)]
def tabL (K : PySem.W.Frag) : List (Addr × Str) := [((He.cT K ("facts_order", none)).2, ("facts_order.<locals>.<lambda>" : Str)), ((He.cT K ("_law_sets", none)).2, ("_law_sets.<locals>.<lambda>" : Str))]
theorem tabs_at {K : PySem.W.Frag} {H : Hp} (tt : ∀ p ∈ tfL.map (He.cT K), H p.2 = some (.tbl #[])) : LamX.Tabs (tabL K) H := fun p hp => by
  obtain ⟨n, hn, h1⟩ : ∃ n ∈ tfL, (He.cT K n).2 = p.1 := by
    simp only [tabL, List.mem_cons, List.not_mem_nil, or_false] at hp
    rcases hp with rfl | rfl <;> exact ⟨_, by simp [tfL], rfl⟩
  exact LamX.TabS.nil (by rw [← h1]; exact tt _ (List.mem_map.mpr ⟨n, hn, rfl⟩))
def fnL : List He.DefD := [
  ⟨("is_whole", none), "is_whole", "is_whole", defArgs (top 6), defBody (top 6), defScope (top 6), [.non, .non], []⟩,
  ⟨("is_sequence", none), "is_sequence", "is_sequence", defArgs (top 7), defBody (top 7), defScope (top 7), [], []⟩,
  ⟨("is_couple", none), "is_couple", "is_couple", defArgs (top 8), defBody (top 8), defScope (top 8), [], []⟩,
  ⟨("_check_parts", none), "_check_parts", "_check_parts", defArgs (top 12), defBody (top 12), defScope (top 12), [], []⟩,
  ⟨("_closed", none), "_closed", "_closed", defArgs (top 13), defBody (top 13), defScope (top 13), [], []⟩,
  ⟨("_check_closed", none), "_check_closed", "_check_closed", defArgs (top 14), defBody (top 14), defScope (top 14), [], []⟩,
  ⟨("_is_cover", none), "_is_cover", "_is_cover", defArgs (top 15), defBody (top 15), defScope (top 15), [], []⟩,
  ⟨("_check_states", none), "_check_states", "_check_states", defArgs (top 21), defBody (top 21), defScope (top 21), [], []⟩,
  ⟨("_check_many", none), "_check_many", "_check_many", defArgs (top 22), defBody (top 22), defScope (top 22), [], []⟩,
  ⟨("chain_order", none), "chain_order", "chain_order", defArgs (top 23), defBody (top 23), defScope (top 23), [], []⟩,
  ⟨("flat_order", none), "flat_order", "flat_order", defArgs (top 24), defBody (top 24), defScope (top 24), [], []⟩,
  ⟨("_check_facts", none), "_check_facts", "_check_facts", defArgs (top 25), defBody (top 25), defScope (top 25), [], []⟩,
  ⟨("_keeps_rules", none), "_keeps_rules", "_keeps_rules", defArgs (top 26), defBody (top 26), defScope (top 26), [], []⟩,
  ⟨("facts_order", none), "facts_order", "facts_order", defArgs (top 27), defBody (top 27), defScope (top 27), [], []⟩,
  ⟨("words_order", none), "words_order", "words_order", defArgs (top 28), defBody (top 28), defScope (top 28), [], []⟩,
  ⟨("_law_mix", none), "_law_mix", "_law_mix", defArgs (top 30), defBody (top 30), defScope (top 30), [], []⟩,
  ⟨("_law_draw", none), "_law_draw", "_law_draw", defArgs (top 31), defBody (top 31), defScope (top 31), [], []⟩,
  ⟨("_law_exact", none), "_law_exact", "_law_exact", defArgs (top 32), defBody (top 32), defScope (top 32), [], []⟩,
  ⟨("_law_over", none), "_law_over", "_law_over", defArgs (top 33), defBody (top 33), defScope (top 33), [], []⟩,
  ⟨("_law_edges", none), "_law_edges", "_law_edges", defArgs (top 34), defBody (top 34), defScope (top 34), [], []⟩,
  ⟨("_law_above", none), "_law_above", "_law_above", defArgs (top 35), defBody (top 35), defScope (top 35), [], []⟩,
  ⟨("_law_told_right", none), "_law_told_right", "_law_told_right", defArgs (top 36), defBody (top 36), defScope (top 36), [], []⟩,
  ⟨("_law_seq", none), "_law_seq", "_law_seq", defArgs (top 37), defBody (top 37), defScope (top 37), [], []⟩,
  ⟨("_law_hand", none), "_law_hand", "_law_hand", defArgs (top 38), defBody (top 38), defScope (top 38), [], []⟩,
  ⟨("_law_wrong", none), "_law_wrong", "_law_wrong", defArgs (top 39), defBody (top 39), defScope (top 39), [], []⟩,
  ⟨("_law_refusal", none), "_law_refusal", "_law_refusal", defArgs (top 40), defBody (top 40), defScope (top 40), [], []⟩,
  ⟨("_law_simple", none), "_law_simple", "_law_simple", defArgs (top 41), defBody (top 41), defScope (top 41), [], []⟩,
  ⟨("_law_sets", none), "_law_sets", "_law_sets", defArgs (top 42), defBody (top 42), defScope (top 42), [], []⟩,
  ⟨("_law_facts", none), "_law_facts", "_law_facts", defArgs (top 43), defBody (top 43), defScope (top 43), [], []⟩,
  ⟨("_law_facts_refused", none), "_law_facts_refused", "_law_facts_refused", defArgs (top 44), defBody (top 44), defScope (top 44), [], []⟩,
  ⟨("_law_all_words", none), "_law_all_words", "_law_all_words", defArgs (top 45), defBody (top 45), defScope (top 45), [], []⟩,
  ⟨("_law_words", none), "_law_words", "_law_words", defArgs (top 46), defBody (top 46), defScope (top 46), [], []⟩,
  ⟨("law", none), "law", "law", defArgs (top 47), defBody (top 47), defScope (top 47), [], []⟩,
  ⟨("BadOrder", some "__init__"), "__init__", "BadOrder.__init__", defArgs (inClass (top 3) 0), defBody (inClass (top 3) 0), defScope (inClass (top 3) 0), [], []⟩,
  ⟨("BadMake", some "__init__"), "__init__", "BadMake.__init__", defArgs (inClass (top 4) 0), defBody (inClass (top 4) 0), defScope (inClass (top 4) 0), [], []⟩,
  ⟨("Order", some "__init__"), "__init__", "Order.__init__", defArgs (inClass (top 16) 0), defBody (inClass (top 16) 0), defScope (inClass (top 16) 0), [], []⟩,
  ⟨("Order", some "__len__"), "__len__", "Order.__len__", defArgs (inClass (top 16) 1), defBody (inClass (top 16) 1), defScope (inClass (top 16) 1), [], []⟩,
  ⟨("Order", some "at_most"), "at_most", "Order.at_most", defArgs (inClass (top 16) 4), defBody (inClass (top 16) 4), defScope (inClass (top 16) 4), [], []⟩,
  ⟨("Order", some "covers"), "covers", "Order.covers", defArgs (inClass (top 16) 5), defBody (inClass (top 16) 5), defScope (inClass (top 16) 5), [], []⟩,
  ⟨("Order", some "above"), "above", "Order.above", defArgs (inClass (top 16) 6), defBody (inClass (top 16) 6), defScope (inClass (top 16) 6), [], []⟩,
  ⟨("Order", some "below"), "below", "Order.below", defArgs (inClass (top 16) 7), defBody (inClass (top 16) 7), defScope (inClass (top 16) 7), [], []⟩]
def gtL : List GetD := []
def faL : List He.Fa := [.glo "is_whole", .glo "is_sequence", .glo "is_couple", .glo "_check_parts", .glo "_closed", .glo "_check_closed", .glo "_is_cover", .glo "_check_states", .glo "_check_many", .glo "chain_order", .glo "flat_order", .glo "_check_facts", .glo "_keeps_rules", .glo "facts_order", .glo "words_order", .glo "_law_mix", .glo "_law_draw", .glo "_law_exact", .glo "_law_over", .glo "_law_edges", .glo "_law_above", .glo "_law_told_right", .glo "_law_seq", .glo "_law_hand", .glo "_law_wrong", .glo "_law_refusal", .glo "_law_simple", .glo "_law_sets", .glo "_law_facts", .glo "_law_facts_refused", .glo "_law_all_words", .glo "_law_words", .glo "law", .glo "FrameError", .glo "BadOrder", .glo "BadMake", .glo "Order", .free "len", .free "int", .free "abs", .free "range", .free "enumerate", .free "list", .free "tuple", .free "isinstance", .free "bool", .free "str", .free "any", .free "repr", .free "sorted", .free "all", .free "ValueError", .int "MOST_STATES" 24, .int "MOST_PAIRS" 600, .int "MOST_FACTS" 8, .int "MOST_RULES" 64, .int "MOST_LETTERS" 23, .noat "BadOrder" "what", .noat "BadOrder" "at", .meth "BadOrder" "__init__", .noat "BadMake" "what", .noat "BadMake" "at", .meth "BadMake" "__init__", .mkr "Order", .cls "Order", .noat "Order" "n", .noat "Order" "_above", .noat "Order" "_below", .noat "Order" "_covers", .noat "Order" "_ends", .noat "Order" "edges", .meth "Order" "__len__", .meth "Order" "at_most", .meth "Order" "covers", .meth "Order" "above", .meth "Order" "below"]
theorem bw_is_whole_3 {K : PySem.W.Frag} {f : Addr} {fd : FuncData} (F : FunD K "is_whole" "is_whole" (defArgs (top 6)) (defBody (top 6)) (defScope (top 6)) [.non, .non] [] f fd) : ∃ ds, Vals [] ds ∧ Binds K fd ["thing", "low", "high"] ds :=
  F.binds1 (ps := ["thing", "low", "high"]) 3 2 (by simp) rfl fun T kV doc pm an cdv ct us its h1 h2 => by
    obtain ⟨a0, a1, a2, rfl⟩ := len3 h1
    obtain ⟨x0, x1, rfl⟩ := len2 h2
    exact ⟨_, rfl, rfl⟩
theorem facts {P : Program} {w : World} {K : PySem.W.Frag} {h : Heap} {mg : Str → Option Value} {f : Addr} (X : K.In h) (G : h.Ns mainGlobals mg) (hfa : mg ("law" : Str) = some (.ref f)) (c : SaysZ faL fnL gtL exK K) (hT : TabsP.T = tabL K) :
    ∃ fd : FuncData, (∀ (s : Shared) (v : Value), BindsTo s fd ⟨[v], []⟩ [("script", v)]) ∧ ∀ base : Heap, K.In base → base.Ns mainGlobals mg → (∀ p ∈ tfL.map (He.cT K), LamX.TabB base mg p.1 p.2) → RunAt P w K mg base f fd ["script"] (spLaw K) := by
  have gl : ∀ (i : Nat) (x : Str), faL[i]? = some (.glo x) → mg x = some (.ref (He.ga K x)) := fun i x e => He.glo_ok X G (c.d.fact i (f := .glo x) e)
  have fr : ∀ (i : Nat) (x : Str), faL[i]? = some (.free x) → mg x = none := fun i x e => He.free_ok X G (c.d.fact i (f := .free x) e)
  obtain ⟨fd_is_whole, D_is_whole⟩ := c.d.def_ 0 rfl
  have g_is_whole := gl 0 "is_whole" rfl
  obtain ⟨fd_is_sequence, D_is_sequence⟩ := c.d.def_ 1 rfl
  have F_is_sequence := fun_of (x := "is_sequence") (q := "is_sequence") (st := (top 7)) D_is_sequence
  have b_is_sequence := F_is_sequence.binds (ps := ["thing"]) fun _ _ _ _ _ _ us hl => match us, hl with | [_], _ => rfl
  have g_is_sequence := gl 1 "is_sequence" rfl
  obtain ⟨fd_is_couple, D_is_couple⟩ := c.d.def_ 2 rfl
  have F_is_couple := fun_of (x := "is_couple") (q := "is_couple") (st := (top 8)) D_is_couple
  have b_is_couple := F_is_couple.binds (ps := ["thing", "high"]) fun _ _ _ _ _ _ us hl => match us, hl with | [_, _], _ => rfl
  have g_is_couple := gl 2 "is_couple" rfl
  obtain ⟨fd__check_parts, D__check_parts⟩ := c.d.def_ 3 rfl
  have F__check_parts := fun_of (x := "_check_parts") (q := "_check_parts") (st := (top 12)) D__check_parts
  have b__check_parts := F__check_parts.binds (ps := ["n", "pairs"]) fun _ _ _ _ _ _ us hl => match us, hl with | [_, _], _ => rfl
  have g__check_parts := gl 3 "_check_parts" rfl
  obtain ⟨fd__closed, D__closed⟩ := c.d.def_ 4 rfl
  have F__closed := fun_of (x := "_closed") (q := "_closed") (st := (top 13)) D__closed
  have b__closed := F__closed.binds (ps := ["n", "pairs"]) fun _ _ _ _ _ _ us hl => match us, hl with | [_, _], _ => rfl
  have g__closed := gl 4 "_closed" rfl
  obtain ⟨fd__check_closed, D__check_closed⟩ := c.d.def_ 5 rfl
  have F__check_closed := fun_of (x := "_check_closed") (q := "_check_closed") (st := (top 14)) D__check_closed
  have b__check_closed := F__check_closed.binds (ps := ["less"]) fun _ _ _ _ _ _ us hl => match us, hl with | [_], _ => rfl
  have g__check_closed := gl 5 "_check_closed" rfl
  obtain ⟨fd__is_cover, D__is_cover⟩ := c.d.def_ 6 rfl
  have F__is_cover := fun_of (x := "_is_cover") (q := "_is_cover") (st := (top 15)) D__is_cover
  have b__is_cover := F__is_cover.binds (ps := ["less", "low", "high"]) fun _ _ _ _ _ _ us hl => match us, hl with | [_, _, _], _ => rfl
  have g__is_cover := gl 6 "_is_cover" rfl
  obtain ⟨fd__check_states, D__check_states⟩ := c.d.def_ 7 rfl
  have F__check_states := fun_of (x := "_check_states") (q := "_check_states") (st := (top 21)) D__check_states
  have b__check_states := F__check_states.binds (ps := ["n"]) fun _ _ _ _ _ _ us hl => match us, hl with | [_], _ => rfl
  have g__check_states := gl 7 "_check_states" rfl
  obtain ⟨fd__check_many, D__check_many⟩ := c.d.def_ 8 rfl
  have F__check_many := fun_of (x := "_check_many") (q := "_check_many") (st := (top 22)) D__check_many
  have b__check_many := F__check_many.binds (ps := ["n"]) fun _ _ _ _ _ _ us hl => match us, hl with | [_], _ => rfl
  have g__check_many := gl 8 "_check_many" rfl
  obtain ⟨fd_chain_order, D_chain_order⟩ := c.d.def_ 9 rfl
  have F_chain_order := fun_of (x := "chain_order") (q := "chain_order") (st := (top 23)) D_chain_order
  have b_chain_order := F_chain_order.binds (ps := ["n"]) fun _ _ _ _ _ _ us hl => match us, hl with | [_], _ => rfl
  have g_chain_order := gl 9 "chain_order" rfl
  obtain ⟨fd_flat_order, D_flat_order⟩ := c.d.def_ 10 rfl
  have F_flat_order := fun_of (x := "flat_order") (q := "flat_order") (st := (top 24)) D_flat_order
  have b_flat_order := F_flat_order.binds (ps := ["n"]) fun _ _ _ _ _ _ us hl => match us, hl with | [_], _ => rfl
  have g_flat_order := gl 10 "flat_order" rfl
  obtain ⟨fd__check_facts, D__check_facts⟩ := c.d.def_ 11 rfl
  have F__check_facts := fun_of (x := "_check_facts") (q := "_check_facts") (st := (top 25)) D__check_facts
  have b__check_facts := F__check_facts.binds (ps := ["facts", "rules"]) fun _ _ _ _ _ _ us hl => match us, hl with | [_, _], _ => rfl
  have g__check_facts := gl 11 "_check_facts" rfl
  obtain ⟨fd__keeps_rules, D__keeps_rules⟩ := c.d.def_ 12 rfl
  have F__keeps_rules := fun_of (x := "_keeps_rules") (q := "_keeps_rules") (st := (top 26)) D__keeps_rules
  have b__keeps_rules := F__keeps_rules.binds (ps := ["kept", "rules"]) fun _ _ _ _ _ _ us hl => match us, hl with | [_, _], _ => rfl
  have g__keeps_rules := gl 12 "_keeps_rules" rfl
  obtain ⟨fd_facts_order, D_facts_order⟩ := c.d.def_ 13 rfl
  have F_facts_order := fun_of (x := "facts_order") (q := "facts_order") (st := (top 27)) D_facts_order
  have b_facts_order := F_facts_order.binds (ps := ["facts", "rules"]) fun _ _ _ _ _ _ us hl => match us, hl with | [_, _], _ => rfl
  have g_facts_order := gl 13 "facts_order" rfl
  obtain ⟨fd_words_order, D_words_order⟩ := c.d.def_ 14 rfl
  have F_words_order := fun_of (x := "words_order") (q := "words_order") (st := (top 28)) D_words_order
  have b_words_order := F_words_order.binds (ps := ["letters", "depth"]) fun _ _ _ _ _ _ us hl => match us, hl with | [_, _], _ => rfl
  have g_words_order := gl 14 "words_order" rfl
  obtain ⟨fd__law_mix, D__law_mix⟩ := c.d.def_ 15 rfl
  have F__law_mix := fun_of (x := "_law_mix") (q := "_law_mix") (st := (top 30)) D__law_mix
  have b__law_mix := F__law_mix.binds (ps := ["number", "turn"]) fun _ _ _ _ _ _ us hl => match us, hl with | [_, _], _ => rfl
  have g__law_mix := gl 15 "_law_mix" rfl
  obtain ⟨fd__law_draw, D__law_draw⟩ := c.d.def_ 16 rfl
  have F__law_draw := fun_of (x := "_law_draw") (q := "_law_draw") (st := (top 31)) D__law_draw
  have b__law_draw := F__law_draw.binds (ps := ["hand", "many"]) fun _ _ _ _ _ _ us hl => match us, hl with | [_, _], _ => rfl
  have g__law_draw := gl 16 "_law_draw" rfl
  obtain ⟨fd__law_exact, D__law_exact⟩ := c.d.def_ 17 rfl
  have F__law_exact := fun_of (x := "_law_exact") (q := "_law_exact") (st := (top 32)) D__law_exact
  have b__law_exact := F__law_exact.binds (ps := ["told", "due"]) fun _ _ _ _ _ _ us hl => match us, hl with | [_, _], _ => rfl
  have g__law_exact := gl 17 "_law_exact" rfl
  obtain ⟨fd__law_over, D__law_over⟩ := c.d.def_ 18 rfl
  have F__law_over := fun_of (x := "_law_over") (q := "_law_over") (st := (top 33)) D__law_over
  have b__law_over := F__law_over.binds (ps := ["below", "x"]) fun _ _ _ _ _ _ us hl => match us, hl with | [_, _], _ => rfl
  have g__law_over := gl 18 "_law_over" rfl
  obtain ⟨fd__law_edges, D__law_edges⟩ := c.d.def_ 19 rfl
  have F__law_edges := fun_of (x := "_law_edges") (q := "_law_edges") (st := (top 34)) D__law_edges
  have b__law_edges := F__law_edges.binds (ps := ["below"]) fun _ _ _ _ _ _ us hl => match us, hl with | [_], _ => rfl
  have g__law_edges := gl 19 "_law_edges" rfl
  obtain ⟨fd__law_above, D__law_above⟩ := c.d.def_ 20 rfl
  have F__law_above := fun_of (x := "_law_above") (q := "_law_above") (st := (top 35)) D__law_above
  have b__law_above := F__law_above.binds (ps := ["below", "x"]) fun _ _ _ _ _ _ us hl => match us, hl with | [_, _], _ => rfl
  have g__law_above := gl 20 "_law_above" rfl
  obtain ⟨fd__law_told_right, D__law_told_right⟩ := c.d.def_ 21 rfl
  have F__law_told_right := fun_of (x := "_law_told_right") (q := "_law_told_right") (st := (top 36)) D__law_told_right
  have b__law_told_right := F__law_told_right.binds (ps := ["order", "below"]) fun _ _ _ _ _ _ us hl => match us, hl with | [_, _], _ => rfl
  have g__law_told_right := gl 21 "_law_told_right" rfl
  obtain ⟨fd__law_seq, D__law_seq⟩ := c.d.def_ 22 rfl
  have F__law_seq := fun_of (x := "_law_seq") (q := "_law_seq") (st := (top 37)) D__law_seq
  have b__law_seq := F__law_seq.binds (ps := ["hand", "row"]) fun _ _ _ _ _ _ us hl => match us, hl with | [_, _], _ => rfl
  have g__law_seq := gl 22 "_law_seq" rfl
  obtain ⟨fd__law_hand, D__law_hand⟩ := c.d.def_ 23 rfl
  have F__law_hand := fun_of (x := "_law_hand") (q := "_law_hand") (st := (top 38)) D__law_hand
  have b__law_hand := F__law_hand.binds (ps := ["script"]) fun _ _ _ _ _ _ us hl => match us, hl with | [_], _ => rfl
  have g__law_hand := gl 23 "_law_hand" rfl
  obtain ⟨fd__law_wrong, D__law_wrong⟩ := c.d.def_ 24 rfl
  have F__law_wrong := fun_of (x := "_law_wrong") (q := "_law_wrong") (st := (top 39)) D__law_wrong
  have b__law_wrong := F__law_wrong.binds (ps := ["hand", "low", "high"]) fun _ _ _ _ _ _ us hl => match us, hl with | [_, _, _], _ => rfl
  have g__law_wrong := gl 24 "_law_wrong" rfl
  obtain ⟨fd__law_refusal, D__law_refusal⟩ := c.d.def_ 25 rfl
  have F__law_refusal := fun_of (x := "_law_refusal") (q := "_law_refusal") (st := (top 40)) D__law_refusal
  have b__law_refusal := F__law_refusal.binds (ps := ["kind", "one", "other"]) fun _ _ _ _ _ _ us hl => match us, hl with | [_, _, _], _ => rfl
  have g__law_refusal := gl 25 "_law_refusal" rfl
  obtain ⟨fd__law_simple, D__law_simple⟩ := c.d.def_ 26 rfl
  have F__law_simple := fun_of (x := "_law_simple") (q := "_law_simple") (st := (top 41)) D__law_simple
  have b__law_simple := F__law_simple.binds (ps := ["hand"]) fun _ _ _ _ _ _ us hl => match us, hl with | [_], _ => rfl
  have g__law_simple := gl 26 "_law_simple" rfl
  obtain ⟨fd__law_sets, D__law_sets⟩ := c.d.def_ 27 rfl
  have F__law_sets := fun_of (x := "_law_sets") (q := "_law_sets") (st := (top 42)) D__law_sets
  have b__law_sets := F__law_sets.binds (ps := ["facts", "rules"]) fun _ _ _ _ _ _ us hl => match us, hl with | [_, _], _ => rfl
  have g__law_sets := gl 27 "_law_sets" rfl
  obtain ⟨fd__law_facts, D__law_facts⟩ := c.d.def_ 28 rfl
  have F__law_facts := fun_of (x := "_law_facts") (q := "_law_facts") (st := (top 43)) D__law_facts
  have b__law_facts := F__law_facts.binds (ps := ["hand"]) fun _ _ _ _ _ _ us hl => match us, hl with | [_], _ => rfl
  have g__law_facts := gl 28 "_law_facts" rfl
  obtain ⟨fd__law_facts_refused, D__law_facts_refused⟩ := c.d.def_ 29 rfl
  have F__law_facts_refused := fun_of (x := "_law_facts_refused") (q := "_law_facts_refused") (st := (top 44)) D__law_facts_refused
  have b__law_facts_refused := F__law_facts_refused.binds (ps := ["hand"]) fun _ _ _ _ _ _ us hl => match us, hl with | [_], _ => rfl
  have g__law_facts_refused := gl 29 "_law_facts_refused" rfl
  obtain ⟨fd__law_all_words, D__law_all_words⟩ := c.d.def_ 30 rfl
  have F__law_all_words := fun_of (x := "_law_all_words") (q := "_law_all_words") (st := (top 45)) D__law_all_words
  have b__law_all_words := F__law_all_words.binds (ps := ["letters", "depth"]) fun _ _ _ _ _ _ us hl => match us, hl with | [_, _], _ => rfl
  have g__law_all_words := gl 30 "_law_all_words" rfl
  obtain ⟨fd__law_words, D__law_words⟩ := c.d.def_ 31 rfl
  have F__law_words := fun_of (x := "_law_words") (q := "_law_words") (st := (top 46)) D__law_words
  have b__law_words := F__law_words.binds (ps := ["hand"]) fun _ _ _ _ _ _ us hl => match us, hl with | [_], _ => rfl
  have g__law_words := gl 31 "_law_words" rfl
  obtain ⟨fd_law, D_law⟩ := c.d.def_ 32 rfl
  have F_law := fun_of (x := "law") (q := "law") (st := (top 47)) D_law
  have b_law := F_law.binds (ps := ["script"]) fun _ _ _ _ _ _ us hl => match us, hl with | [_], _ => rfl
  have g_law := gl 32 "law" rfl
  obtain ⟨fd_BadOrder, D_BadOrder⟩ := c.d.def_ 33 rfl
  have F_BadOrder := fun_of (x := "__init__") (q := "BadOrder.__init__") (st := (inClass (top 3) 0)) D_BadOrder
  have b_BadOrder := F_BadOrder.binds (ps := ["self", "what", "at"]) fun _ _ _ _ _ _ us hl => match us, hl with | [_, _, _], _ => rfl
  obtain ⟨fd_BadMake, D_BadMake⟩ := c.d.def_ 34 rfl
  have F_BadMake := fun_of (x := "__init__") (q := "BadMake.__init__") (st := (inClass (top 4) 0)) D_BadMake
  have b_BadMake := F_BadMake.binds (ps := ["self", "what", "at"]) fun _ _ _ _ _ _ us hl => match us, hl with | [_, _, _], _ => rfl
  obtain ⟨fd_Order___init__, D_Order___init__⟩ := c.d.def_ 35 rfl
  have F_Order___init__ := fun_of (x := "__init__") (q := "Order.__init__") (st := (inClass (top 16) 0)) D_Order___init__
  have b_Order___init__ := F_Order___init__.binds (ps := ["self", "n", "pairs"]) fun _ _ _ _ _ _ us hl => match us, hl with | [_, _, _], _ => rfl
  obtain ⟨fd_Order___len__, D_Order___len__⟩ := c.d.def_ 36 rfl
  have F_Order___len__ := fun_of (x := "__len__") (q := "Order.__len__") (st := (inClass (top 16) 1)) D_Order___len__
  have b_Order___len__ := F_Order___len__.binds (ps := ["self"]) fun _ _ _ _ _ _ us hl => match us, hl with | [_], _ => rfl
  have h_Order___len__ := He.meth_ok (c.d.fact 71 (f := .meth "Order" "__len__") rfl)
  obtain ⟨fd_Order_at_most, D_Order_at_most⟩ := c.d.def_ 37 rfl
  have F_Order_at_most := fun_of (x := "at_most") (q := "Order.at_most") (st := (inClass (top 16) 4)) D_Order_at_most
  have b_Order_at_most := F_Order_at_most.binds (ps := ["self", "one", "other"]) fun _ _ _ _ _ _ us hl => match us, hl with | [_, _, _], _ => rfl
  have h_Order_at_most := He.meth_ok (c.d.fact 72 (f := .meth "Order" "at_most") rfl)
  obtain ⟨fd_Order_covers, D_Order_covers⟩ := c.d.def_ 38 rfl
  have F_Order_covers := fun_of (x := "covers") (q := "Order.covers") (st := (inClass (top 16) 5)) D_Order_covers
  have b_Order_covers := F_Order_covers.binds (ps := ["self", "state"]) fun _ _ _ _ _ _ us hl => match us, hl with | [_, _], _ => rfl
  have h_Order_covers := He.meth_ok (c.d.fact 73 (f := .meth "Order" "covers") rfl)
  obtain ⟨fd_Order_above, D_Order_above⟩ := c.d.def_ 39 rfl
  have F_Order_above := fun_of (x := "above") (q := "Order.above") (st := (inClass (top 16) 6)) D_Order_above
  have b_Order_above := F_Order_above.binds (ps := ["self", "state"]) fun _ _ _ _ _ _ us hl => match us, hl with | [_, _], _ => rfl
  have h_Order_above := He.meth_ok (c.d.fact 74 (f := .meth "Order" "above") rfl)
  obtain ⟨fd_Order_below, D_Order_below⟩ := c.d.def_ 40 rfl
  have F_Order_below := fun_of (x := "below") (q := "Order.below") (st := (inClass (top 16) 7)) D_Order_below
  have b_Order_below := F_Order_below.binds (ps := ["self", "state"]) fun _ _ _ _ _ _ us hl => match us, hl with | [_, _], _ => rfl
  have h_Order_below := He.meth_ok (c.d.fact 75 (f := .meth "Order" "below") rfl)
  have cl_Order := He.cls_ok (c.d.fact 64 (f := .cls "Order") rfl)
  have mk_Order := He.mkr_ok (c.d.fact 63 (f := .mkr "Order") rfl)
  have no_Order_n := He.noat_ok (c.d.fact 65 (f := .noat "Order" "n") rfl)
  have no_Order__above := He.noat_ok (c.d.fact 66 (f := .noat "Order" "_above") rfl)
  have no_Order__below := He.noat_ok (c.d.fact 67 (f := .noat "Order" "_below") rfl)
  have no_Order__covers := He.noat_ok (c.d.fact 68 (f := .noat "Order" "_covers") rfl)
  have no_Order__ends := He.noat_ok (c.d.fact 69 (f := .noat "Order" "_ends") rfl)
  have no_Order_edges := He.noat_ok (c.d.fact 70 (f := .noat "Order" "edges") rfl)
  have g_FrameError := gl 33 "FrameError" rfl
  have g_BadOrder := gl 34 "BadOrder" rfl
  have g_BadMake := gl 35 "BadMake" rfl
  have g_Order := gl 36 "Order" rfl
  have T : Bl mg := ⟨fr 37 "len" rfl, fr 38 "int" rfl, fr 39 "abs" rfl, fr 40 "range" rfl, fr 41 "enumerate" rfl, fr 42 "list" rfl, fr 43 "tuple" rfl, fr 44 "isinstance" rfl, fr 45 "bool" rfl, fr 46 "str" rfl, fr 47 "any" rfl, fr 48 "repr" rfl⟩
  have n_sorted := fr 49 "sorted" rfl
  have n_all := fr 50 "all" rfl
  have n_ValueError := fr 51 "ValueError" rfl
  have i_MOST_STATES := He.int_ok X G (c.d.fact 52 (f := .int "MOST_STATES" 24) rfl)
  have i_MOST_PAIRS := He.int_ok X G (c.d.fact 53 (f := .int "MOST_PAIRS" 600) rfl)
  have i_MOST_FACTS := He.int_ok X G (c.d.fact 54 (f := .int "MOST_FACTS" 8) rfl)
  have i_MOST_RULES := He.int_ok X G (c.d.fact 55 (f := .int "MOST_RULES" 64) rfl)
  have i_MOST_LETTERS := He.int_ok X G (c.d.fact 56 (f := .int "MOST_LETTERS" 23) rfl)
  have e := hfa.symm.trans g_law
  cases e
  have m := c.more
  have x (i : Nat) {b : Bool} (e : (exL K (He.ga K "FrameError") (He.ga K "BadOrder") (He.ga K "BadMake") (He.ga K "Order") (He.ma K (He.ga K "BadOrder") "__init__") (He.ma K (He.ga K "BadMake") "__init__"))[i]? = some b) : b = true := all_at m i e
  have ox_BadOrder : OexC K (He.ga K "BadOrder") := ⟨exB1_ok (x 0 rfl), He.eqO_ok (x 1 rfl), of_decide_eq_true (x 2 rfl), of_decide_eq_true (x 3 rfl), x 4 rfl⟩
  have m_BadOrder := He.meth_ok (c.d.fact 59 (f := .meth "BadOrder" "__init__") rfl)
  have no_BadOrder_what := He.noat_ok (c.d.fact 57 (f := .noat "BadOrder" "what") rfl)
  have no_BadOrder_at := He.noat_ok (c.d.fact 58 (f := .noat "BadOrder" "at") rfl)
  have xf_BadOrder := xfB_ok (x 5 rfl)
  have ox_BadMake : OexC K (He.ga K "BadMake") := ⟨exB1_ok (x 7 rfl), He.eqO_ok (x 8 rfl), of_decide_eq_true (x 9 rfl), of_decide_eq_true (x 10 rfl), x 11 rfl⟩
  have m_BadMake := He.meth_ok (c.d.fact 62 (f := .meth "BadMake" "__init__") rfl)
  have no_BadMake_what := He.noat_ok (c.d.fact 60 (f := .noat "BadMake" "what") rfl)
  have no_BadMake_at := He.noat_ok (c.d.fact 61 (f := .noat "BadMake" "at") rfl)
  have xf_BadMake := xfB_ok (x 12 rfl)
  have exm_BadMake_BadMake := of_decide_eq_true (x 19 rfl)
  have kit_BadMake_FrameError := of_decide_eq_true (x 20 rfl)
  have kit_BadMake_ValueError := of_decide_eq_true (x 21 rfl)
  have kit_BadMake_BadOrder := of_decide_eq_true (x 22 rfl)
  have isc_BadMake : IsC K (He.ga K "BadMake") := ⟨x 14 rfl, xf_BadMake.gg, He.eqO_ok (x 15 rfl), He.eqO_ok (x 17 rfl), of_decide_eq_true (x 18 rfl), of_decide_eq_true (x 16 rfl), xf_BadMake⟩
  have more_ne := x 23 rfl
  have bl := FunD.bindsA (ps := ["script"]) D_law fun _ _ _ _ _ _ us hl => match us, hl with | [_], _ => rfl
  refine ⟨fd_law, fun s v => bl s [v] rfl, fun base _ _ htb => ?_⟩
  have TB_facts_order : LamX.TabB base mg (He.cT K ("facts_order", none)).1 (He.cT K ("facts_order", none)).2 := htb _ (List.mem_map.mpr ⟨_, by simp [tfL], rfl⟩)
  have hm_facts_order : ((He.cT K ("facts_order", none)).2, ("facts_order.<locals>.<lambda>" : Str)) ∈ TabsP.T := by rw [hT]; simp [tabL]
  have TB__law_sets : LamX.TabB base mg (He.cT K ("_law_sets", none)).1 (He.cT K ("_law_sets", none)).2 := htb _ (List.mem_map.mpr ⟨_, by simp [tfL], rfl⟩)
  have hm__law_sets : ((He.cT K ("_law_sets", none)).2, ("_law_sets.<locals>.<lambda>" : Str)) ∈ TabsP.T := by rw [hT]; simp [tabL]
  have ne01 : (He.cT K ("facts_order", none)).2 ≠ (He.cT K ("_law_sets", none)).2 := of_decide_eq_true more_ne
  have hu_facts_order : ∀ p ∈ TabsP.T, p.1 = (He.cT K ("facts_order", none)).2 → p.2 = ("facts_order.<locals>.<lambda>" : Str) := by
    rw [hT]
    intro p hp e
    simp only [tabL, List.mem_cons, List.not_mem_nil, or_false] at hp
    rcases hp with rfl | rfl
    · rfl
    · exact absurd e.symm ne01
  have hu__law_sets : ∀ p ∈ TabsP.T, p.1 = (He.cT K ("_law_sets", none)).2 → p.2 = ("_law_sets.<locals>.<lambda>" : Str) := by
    rw [hT]
    intro p hp e
    simp only [tabL, List.mem_cons, List.not_mem_nil, or_false] at hp
    rcases hp with rfl | rfl
    · exact absurd e ne01
    · rfl
  have x_BadOrder : ExK P w K mg base "BadOrder" (He.ga K "BadOrder") ["what", "at"] := ⟨⟨_, _, _, ox_BadOrder, g_BadOrder, m_BadOrder.at_, of_decide_eq_true (x 6 rfl), ok_bo (P := P) (w := w) (base := base) F_BadOrder ox_BadOrder no_BadOrder_what no_BadOrder_at, b_BadOrder⟩⟩
  have x_BadMake : ExK P w K mg base "BadMake" (He.ga K "BadMake") ["what", "at"] := ⟨⟨_, _, _, ox_BadMake, g_BadMake, m_BadMake.at_, of_decide_eq_true (x 13 rfl), ok_bm (P := P) (w := w) (base := base) F_BadMake ox_BadMake no_BadMake_what no_BadMake_at, b_BadMake⟩⟩
  have w_ok := ok_whole (P := P) (w := w) (base := base) D_is_whole T
  have k_wh : Cal P w K mg base CX0 "is_whole" 1 (spD K wWhole) := by
    obtain ⟨ds, hv, hb⟩ := bw_is_whole_3 D_is_whole
    cases hv
    exact ⟨⟨_, _, _, g_is_whole, D_is_whole.kp, hb, w_ok⟩⟩
  have k_sq := cal_of F_is_sequence g_is_sequence b_is_sequence (ok_seq (P := P) (w := w) (base := base) F_is_sequence T)
  have k_cp := cal_of F_is_couple g_is_couple b_is_couple (ok_couple F_is_couple T k_wh k_sq)
  have k_prt := cal_of F__check_parts g__check_parts b__check_parts (ok_parts F__check_parts T i_MOST_STATES i_MOST_PAIRS k_wh k_sq k_cp x_BadOrder)
  have k_clo := cal_of F__closed g__closed b__closed (ok_closedD (P := P) (w := w) (base := base) F__closed T)
  have k_cc := cal_of F__check_closed g__check_closed b__check_closed (ok_cc F__check_closed T x_BadOrder)
  have k_cov := cal_of F__is_cover g__is_cover b__is_cover (ok_cov (P := P) (w := w) (base := base) F__is_cover T)
  have na : ∀ f ∈ ordNs, NoAttr K (He.ga K "Order") f := fun f hf => by
    simp only [ordNs, List.mem_cons, List.not_mem_nil, or_false] at hf
    rcases hf with rfl | rfl | rfl | rfl | rfl | rfl <;> assumption
  have o_Order := mki_of g_Order mk_Order b_Order___init__ (ok_oi F_Order___init__ T cl_Order na k_prt k_clo k_cc k_cov)
  have m_cov := calm_of h_Order_covers b_Order_covers (ok_ocv (P := P) (w := w) (base := base) F_Order_covers T cl_Order na)
  have m_abv := calm_of h_Order_above b_Order_above (ok_oab (P := P) (w := w) (base := base) F_Order_above T cl_Order na)
  have m_blw := calm_of h_Order_below b_Order_below (ok_obl (P := P) (w := w) (base := base) F_Order_below T cl_Order na)
  have m_len := calm_of h_Order___len__ b_Order___len__ (ok_oln (P := P) (w := w) (base := base) F_Order___len__ T cl_Order na)
  have m_atm := calm_of h_Order_at_most b_Order_at_most (ok_oam (P := P) (w := w) (base := base) F_Order_at_most T cl_Order na)
  have k_many := cal_of F__check_many g__check_many b__check_many (ok_many F__check_many T i_MOST_STATES x_BadMake)
  have k_cst := cal_of F__check_states g__check_states b__check_states (ok_cst F__check_states T i_MOST_STATES x_BadMake k_wh)
  have k_chain := cal_of F_chain_order g_chain_order b_chain_order (ok_chain F_chain_order T o_Order k_cst)
  have k_flat := cal_of F_flat_order g_flat_order b_flat_order (ok_flat F_flat_order T o_Order k_cst)
  have k_cf := cal_of F__check_facts g__check_facts b__check_facts (ok_cf F__check_facts T i_MOST_FACTS i_MOST_RULES x_BadMake k_wh k_sq k_cp)
  have k_kr := cal_of F__keeps_rules g__keeps_rules b__keeps_rules (ok_kr (P := P) (w := w) (base := base) F__keeps_rules T n_all)
  have k_fo := cal_of F_facts_order g_facts_order b_facts_order (ok_fo F_facts_order (code_is D_facts_order) TB_facts_order hm_facts_order hu_facts_order T n_sorted n_all o_Order k_cf k_many k_kr)
  have k_wd := cal_of F_words_order g_words_order b_words_order (ok_wd F_words_order T i_MOST_STATES i_MOST_LETTERS x_BadMake o_Order k_wh k_many)
  have k_mix := cal_of F__law_mix g__law_mix b__law_mix (ok_mix (P := P) (w := w) (base := base) F__law_mix T)
  have k_dr0 := cal_of F__law_draw g__law_draw b__law_draw (ok_draw F__law_draw T k_mix)
  have k_dr := draw_D k_dr0
  have k_exact : Cal P w K mg base CX0 "_law_exact" 3 (spD K (wExact 3)) := cal_of F__law_exact g__law_exact b__law_exact (ok_exN F__law_exact T g__law_exact F__law_exact.kp b__law_exact 3)
  have k_sqd := cal_of F__law_seq g__law_seq b__law_seq (ok_sqd F__law_seq T k_dr)
  have k_over := cal_of F__law_over g__law_over b__law_over (ok_over (P := P) (w := w) (base := base) F__law_over T)
  have k_labv := cal_of F__law_above g__law_above b__law_above (ok_labv (P := P) (w := w) (base := base) F__law_above T)
  have k_ledg := cal_of F__law_edges g__law_edges b__law_edges (ok_ledg F__law_edges T k_over)
  have k_tr := cal_of F__law_told_right g__law_told_right b__law_told_right (ok_tr F__law_told_right T cl_Order na m_len m_cov m_abv m_blw m_atm k_exact k_over k_labv k_ledg)
  have k_wr := cal_of F__law_wrong g__law_wrong b__law_wrong (ok_wr F__law_wrong T k_dr)
  have V : RfV K (He.ga K "BadMake") (He.ga K "BadOrder") (He.ga K "FrameError") := ⟨exm_BadMake_BadMake, xf_BadMake, no_BadMake_what, no_BadMake_at, isc_BadMake, kit_BadMake_FrameError, kit_BadMake_ValueError, kit_BadMake_BadOrder⟩
  have k_rfs := cal_of F__law_refusal g__law_refusal b__law_refusal (ok_rfs F__law_refusal T V g_BadMake g_BadOrder g_FrameError n_ValueError k_chain k_flat k_fo k_wd)
  have k_smp := cal_of F__law_simple g__law_simple b__law_simple (ok_smp F__law_simple T k_dr k_wr k_rfs k_exact k_tr k_chain k_flat)
  have k_lset := cal_of F__law_sets g__law_sets b__law_sets (ok_lset (P := P) (w := w) (base := base) F__law_sets (code_is D__law_sets) TB__law_sets hm__law_sets hu__law_sets T n_sorted)
  have k_lf := calq_of F__law_facts g__law_facts b__law_facts (ok_lf F__law_facts T k_dr k_sqd k_lset k_rfs k_exact k_tr k_fo)
  have k_lfr := cal_of F__law_facts_refused g__law_facts_refused b__law_facts_refused (ok_lfr F__law_facts_refused T k_dr k_sqd k_wr k_rfs k_exact)
  have k_aw := cal_of F__law_all_words g__law_all_words b__law_all_words (ok_aw (P := P) (w := w) (base := base) F__law_all_words T)
  have k_lw := cal_of F__law_words g__law_words b__law_words (ok_lw F__law_words T k_dr k_aw k_wr k_rfs k_exact k_tr k_wd)
  have k_hand := cal_of F__law_hand g__law_hand b__law_hand (ok_hand (P := P) (w := w) (base := base) F__law_hand T)
  refine run_def (k := 11) F_law sc_law (fun vs H Q E h => ?_) ⟨rfl, by decide, by decide⟩ (fun cdv s H vs Q E hr h => law_body T k_hand k_smp k_lf k_lfr k_lw cdv s H vs Q E hr h)
  obtain ⟨a, ns, rfl, _⟩ := h
  rfl
end Z

set_option Elab.async false
set_option linter.all false
set_option maxRecDepth 100000
set_option maxHeartbeats 0
/-! NOTABS -/
namespace Z
open PySem L2
open PySem.Spec PyProof.Rows
instance i0 : TabsP := ⟨[]⟩
abbrev Rw : PySem.W.OpenRow := PySem.W.OpenLaw.row PySem.Challenge.rw_spentframes_k02_orders_by_a_rule
abbrev hkw : PySem.W.Hook := hookW 6 faL fnL gtL tfL exK
def obw (s : PySem.W.SharedT) : AlZ := obsW 6 faL fnL gtL tfL exK (HandSHeadRun.getT s)
theorem obw_eq (s : PySem.W.SharedT) : obw s = hkw.obs s.abs := obsW_eq (HandSHeadRun.getT_eq s)
def loosew : List Str := ("_wall" : Str) :: ("FrameError" : Str) :: ("BadOrder" : Str) :: ("BadMake" : Str) :: ("Order" : Str) :: ("is_whole" : Str) :: ("is_sequence" : Str) :: ("is_couple" : Str) :: ("_check_parts" : Str) :: ("_closed" : Str) :: ("_check_closed" : Str) :: ("_is_cover" : Str) :: ("_check_states" : Str) :: ("_check_many" : Str) :: ("chain_order" : Str) :: ("flat_order" : Str) :: ("_check_facts" : Str) :: ("_keeps_rules" : Str) :: ("facts_order" : Str) :: ("words_order" : Str) :: ("_law_mix" : Str) :: ("_law_draw" : Str) :: ("_law_exact" : Str) :: ("_law_over" : Str) :: ("_law_edges" : Str) :: ("_law_above" : Str) :: ("_law_told_right" : Str) :: ("_law_seq" : Str) :: ("_law_hand" : Str) :: ("_law_wrong" : Str) :: ("_law_refusal" : Str) :: ("_law_simple" : Str) :: ("_law_sets" : Str) :: ("_law_facts" : Str) :: ("_law_facts_refused" : Str) :: ("_law_all_words" : Str) :: ("_law_words" : Str) :: ("MOST_STATES" : Str) :: ("MOST_PAIRS" : Str) :: ("MOST_FACTS" : Str) :: ("MOST_RULES" : Str) :: ("MOST_LETTERS" : Str) :: []
theorem runw (w : World) : HandSHeadRun.RunEq Rw (PySem.W.view Rw.prog [47]) hkw obw 6000 loosew w := by
  intro os
  kernel_rfl
end Z
open PySem PySem.W PySem.Calls PyProof.Rows
theorem PySem.Challenge.cw_spentframes_k02_orders_by_a_rule_holds : PySem.Challenge.rw_spentframes_k02_orders_by_a_rule.Holds := by
  w_on; o_law
  refine HandSHeadRun.head_any (r := OpenLaw.row PySem.Challenge.rw_spentframes_k02_orders_by_a_rule) (q := view (OpenLaw.row PySem.Challenge.rw_spentframes_k02_orders_by_a_rule).prog [47]) (H := Z.hkw) (ob := Z.obw) (M := 6000) (loose := Z.loosew) (d := HandSHeadRun.topDef (OpenLaw.row PySem.Challenge.rw_spentframes_k02_orders_by_a_rule).prog 47) (kwd := []) Z.obw_eq
    (by kernel_rfl) (fun s => by kernel_rfl) Z.runw (by kernel_rfl) (by kernel_rfl) (by kernel_rfl) (by rfl) (by first | assumption | decide +kernel) (by decide +kernel) ⟨rfl, rfl, rfl, rfl, rfl, by decide +kernel⟩ ?hw ?hc
  case hw => w_witness2
  case hc =>
    refine Z.run_walkT (l := PySem.Challenge.rw_spentframes_k02_orders_by_a_rule) (n := 63) (x := "script") rfl (by decide) (by kernel_rfl) ?F
    intro w mg fa h Y G hmg0
    obtain ⟨K, KX, c, ct⟩ := Y
    letI : Z.TabsP := ⟨Z.tabL K⟩
    have hmg : mg ("law" : PySem.Str) = some (.ref fa) := by
      have e : (HandSHeadRun.topDef (OpenLaw.row PySem.Challenge.rw_spentframes_k02_orders_by_a_rule).prog 47).name = ("law" : PySem.Str) := by kernel_rfl
      rw [← e]
      exact hmg0
    obtain ⟨fd, hb, hF⟩ := Z.facts (P := (PySem.Challenge.rw_spentframes_k02_orders_by_a_rule).prog) (w := w) KX G hmg c rfl
    exact ⟨K, fd, Z.spLaw K, Z.tfL.map (He.cT K), KX, fun p hp => by
      obtain ⟨q, hq, rfl⟩ := List.mem_map.mp hp
      exact ct q hq, hb, fun H a ns hl tt hS => ⟨a, ns, rfl, hS, ⟨hl, Z.tabs_at tt⟩, fun _ => rfl⟩, hF⟩
