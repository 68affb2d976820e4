import PyProof.Rows.All
import Wide.All
import OpenK.AllK
import Wide.FinOn
import HandS.ForMost
import HandS.Deep
import HandS.IsInst
import HandS.Codes
import HandS.ForExc
import HandS.RaiseMore
import HandS.FStr
import HandS.More
import HandS.Walk
import HandS.MakeKwOnly
import HandS.ExcIs
import HandS.OwnEq
import HandS.Text
import HandS.Defaults
import HandS.Iter
import HandS.TryOnly
import KE.KxText
import HandS.StrMore
import KE.KUnpackStar
import PyProof.Draws
import PyProof.EnumMake
import PySem.Challenge.RW_gridscope_k27_steps_done_on_drawings
set_option Elab.async false
set_option linter.all false
set_option maxRecDepth 100000
set_option maxHeartbeats 4000000
namespace Gs
open PySem L2
/-! ### a def of the text, by its name, as its callers use it -/
def Dn (P : Program) (w : World) (K : PySem.W.Frag) (mg : Str → Option Value) (base : Heap) (CX : CXT) (k : Nat) (x : Str) (ps : List Str) (sp : Sp) : Prop :=
  ∃ (f : Addr) (fd : FuncData), FnOk P w K mg base CX k f fd ps sp ∧ mg x = some (.ref f) ∧ PySem.W.keepIn K (.ref f) = true ∧ Binds K fd ps []
theorem Dn.mono {P : Program} {w : World} {K : PySem.W.Frag} {mg : Str → Option Value} {base : Heap} {CX : CXT} {j k : Nat} {x : Str} {ps : List Str} {sp : Sp} (D : Dn P w K mg base CX j x ps sp) (h : j ≤ k) : Dn P w K mg base CX k x ps sp := by
  obtain ⟨f, fd, F, m, kp, b⟩ := D
  exact ⟨f, fd, F.mono h, m, kp, b⟩
theorem Dn.imp {P : Program} {w : World} {K : PySem.W.Frag} {mg : Str → Option Value} {base : Heap} {CX : CXT} {k : Nat} {x : Str} {ps : List Str} {sp sp' : Sp} (D : Dn P w K mg base CX k x ps sp) (h : ∀ vs H Q E, sp' vs H Q E → sp vs H Q E) : Dn P w K mg base CX k x ps sp' := by
  obtain ⟨f, fd, F, m, kp, b⟩ := D
  exact ⟨f, fd, F.imp h, m, kp, b⟩
theorem pe_callD {X : Cx} {CX : CXT} {k : Nat} {x : Str} {ps : List Str} {sp : Sp} {E : XK} {p pos : Pos} {e : Expr} {es : List Expr} {t : TA} (D : Dn X.prog X.w X.K X.mg X.base CX k x ps sp) (hr : Room k X.A) (hg : Gl X x) (hx : Passes CX X E)
    (ha : PA X (e :: es) t) (hdb : (x == ("__debug__" : Str)) = false := by decide) (he : starEach (e :: es) X.env = (false, eval e X.env) :: starEach es X.env := by rfl) (hpl : (backTo pos (starEach es X.env)).any (·.1) = false := by rfl) :
    PE X (.Call (.Name x p) (e :: es) [] pos) (tCall sp [] E t) := by
  obtain ⟨f, fd, F, m, kp, b⟩ := D
  exact pe_call F hr hg m kp b .nil hx ha hdb he hpl
theorem pe_callSD {X : Cx} {CX : CXT} {k : Nat} {x : Str} {ps : List Str} {sp : Sp} {E : St → XK} {p pos : Pos} {e : Expr} {es : List Expr} {t : TA} (D : Dn X.prog X.w X.K X.mg X.base CX k x ps sp) (hr : Room k X.A) (hg : Gl X x) (hx : ∀ σ, PassesAt CX X σ (E σ))
    (ha : PA X (e :: es) t) (hdb : (x == ("__debug__" : Str)) = false := by decide) (he : starEach (e :: es) X.env = (false, eval e X.env) :: starEach es X.env := by rfl) (hpl : (backTo pos (starEach es X.env)).any (·.1) = false := by rfl) :
    PE X (.Call (.Name x p) (e :: es) [] pos) (tCallS sp E t) := by
  obtain ⟨f, fd, F, m, kp, b⟩ := D
  exact pe_callS F hr hg m kp b hx ha hdb he hpl
/-- what the top says of an own exception class without a method of its own -/
structure ExcOk (K : PySem.W.Frag) (mg : Str → Option Value) (x : Str) (C : Addr) (bm : List Value) (nid : String) : Prop where
  g : mg x = some (.ref C)
  ex : PySem.W.excIn K C bm nid = true
  kp : PySem.W.keepIn K (.ref C) = true
  b : PySem.W.subIn K (.ref C) (.type "BaseException") = some true
  t : PySem.W.typeIn K (.ref C) = some (.type "type")
  cl : PySem.W.isClsIn K C = true
  sf : PySem.W.subIn K (.ref C) (.ref C) = some true
theorem exm_own {K : PySem.W.Frag} {cls : Value} {C : Addr} {b : Bool} (hb : PySem.W.subIn K (.ref C) (.type "BaseException") = some true) (hc : PySem.W.isClsIn K C = true) (ht : PySem.W.typeIn K (.ref C) = some (.type "type")) (hs : PySem.W.subIn K cls (.ref C) = some b) : PySem.W.exmOne K cls (.ref C) = some b := by
  have h1 : PySem.W.kitCls K cls (.ref C) = some b := by
    show (if ((PySem.W.clsIn K C).isSome && PySem.W.typeIn K (.ref C) == some (.type "type")) = true then PySem.W.subIn K cls (.ref C) else none) = some b
    have h2 : (PySem.W.clsIn K C).isSome = true := hc
    rw [h2, ht, if_pos (by simp)]
    exact hs
  unfold PySem.W.exmOne
  rw [hb, if_pos (by simp)]
  exact h1
theorem ExcOk.me {K : PySem.W.Frag} {mg : Str → Option Value} {x : Str} {C : Addr} {bm : List Value} {nid : String} (e : ExcOk K mg x C bm nid) : PySem.W.exmOne K (.ref C) (.ref C) = some true := exm_own e.b e.cl e.t e.sf
abbrev ieL : List Value := [.type "IndexError", .type "LookupError", .type "Exception", .type "BaseException", .type "object"]
abbrev leL : List Value := [.type "LookupError", .type "Exception", .type "BaseException", .type "object"]
abbrev veL : List Value := [.type "ValueError", .type "Exception", .type "BaseException", .type "object"]
theorem glS {X : Cx} {x z : Str} {t : Tok} {pos : Pos} (hg : Gl X x) (hm : X.mg x = some (.str z t)) (hd : (x == ("__debug__" : Str)) = false := by decide) : PE X (.Name x pos) (tC (.str z)) := pe_glob hg hm ⟨t, rfl⟩ hd
theorem glI {X : Cx} {x : Str} {i : Int} {t : Tok} {pos : Pos} (hg : Gl X x) (hm : X.mg x = some (.int i t)) (hd : (x == ("__debug__" : Str)) = false := by decide) : PE X (.Name x pos) (tC (.int i)) := pe_glob hg hm ⟨t, rfl⟩ hd
/-! ### heaps -/
theorem same_new {H : Hp} {p : Addr} (h : H p = none) (o : HO) : Same H (upd H p o) := fun b u q => by rw [upd_ne (ne_of_none q h)]; exact q
theorem Same.tup {K : PySem.W.Frag} {H H' : Hp} {a : Addr} {xs : List V} (e : Same H H') (h : SqT K H a xs) : SqT K H' a xs := by
  rcases h with (h | ⟨o, h⟩) | h
  · exact .inl (.inl (e _ _ h))
  · exact .inl (.inr ⟨o, e _ _ h⟩)
  · exact .inr h
theorem small {n : Nat} (h : n ≤ 1000) : n ≤ sizeLine := Nat.le_of_lt (small1000 h)
/-! ### data at any depth -/
mutual
theorem dp_same {K : PySem.W.Frag} {H H' : Hp} (e : Same H H') : ∀ (d : PyData) (v : V), Dp K H v d → Dp K H' v d
  | .none, _, h => by cases h; exact .non
  | .bool b, _, h => by cases h; exact .bl b
  | .int i, _, h => by cases h; exact .int i
  | .str x, _, h => by cases h; exact .str x
  | .list ds, _, h => by
    cases h with
    | lst s a => exact .lst (e.seq s) (dpAll_same e ds _ a)
  | .tuple ds, _, h => by
    cases h with
    | tup s a => exact .tup (Same.tup e s) (dpAll_same e ds _ a)
  | .dict b, _, h => by cases h
theorem dpAll_same {K : PySem.W.Frag} {H H' : Hp} (e : Same H H') : ∀ (ds : List PyData) (vs : List V), DpAll K H vs ds → DpAll K H' vs ds
  | [], _, h => by cases h; exact .nil
  | d :: ds, _, h => by
    cases h with
    | cons a b => exact .cons (dp_same e d _ a) (dpAll_same e ds _ b)
end
theorem dpI {K : PySem.W.Frag} {H : Hp} {i j : Int} (e : i = j) : Dp K H (.int i) (.int j) := by subst e; exact .int _
theorem dpB {K : PySem.W.Frag} {H : Hp} {i j : Bool} (e : i = j) : Dp K H (.bl i) (.bool j) := by subst e; exact .bl _
theorem dpS {K : PySem.W.Frag} {H : Hp} {i j : Str} (e : i = j) : Dp K H (.str i) (.str j) := by subst e; exact .str _
theorem dpAll_len {K : PySem.W.Frag} {H : Hp} : ∀ {vs : List V} {ds : List PyData}, DpAll K H vs ds → vs.length = ds.length
  | _, _, .nil => rfl
  | _, _, .cons _ b => by simp [dpAll_len b]
theorem dpAll_get {K : PySem.W.Frag} {H : Hp} : ∀ {vs : List V} {ds : List PyData} {i : Nat} {d : PyData}, DpAll K H vs ds → ds[i]? = some d → ∃ v, vs[i]? = some v ∧ Dp K H v d
  | _, _, _, _, .nil, e => by simp at e
  | _, _, 0, _, .cons a _, e => by simp at e; subst e; exact ⟨_, rfl, a⟩
  | _, _, i + 1, _, .cons _ b, e => by simpa using dpAll_get (i := i) b (by simpa using e)

/-! ### the law's own helpers: what each of them promises -/
/-- a draw: what is left of the script, its place, what is left of a great number, the seed, the count -/
def drawO (l : Addr) (i left seed n : Int) : HO := .lst [.ref l, .int i, .int left, .int seed, .int n]
def DrawAt (H : Hp) (a : Addr) : Prop := ∃ (l : Addr) (ns : List Int) (i left seed n : Int), H a = some (drawO l i left seed n) ∧ H l = some (.lst (ns.map V.int)) ∧ 0 ≤ i ∧ 0 ≤ seed ∧ seed < 1000000007
/-- all but the draw is as it was -/
def Ext (a : Addr) (H H' : Hp) : Prop := DrawAt H' a ∧ ∀ b o, b ≠ a → H b = some o → H' b = some o
theorem DrawAt.ne {H : Hp} {a l : Addr} {i left seed n : Int} {ns : List Int} (h1 : H a = some (drawO l i left seed n)) (h2 : H l = some (.lst (ns.map V.int))) : l ≠ a := by
  refine ne_of h2 h1 ?_
  intro e
  unfold drawO at e
  cases ns with
  | nil => simp at e
  | cons x r => simp at e
theorem DrawAt.same {H H' : Hp} {a : Addr} (d : DrawAt H a) (e : Same H H') : DrawAt H' a := by
  obtain ⟨l, ns, i, left, seed, n, h1, h2, r⟩ := d
  exact ⟨l, ns, i, left, seed, n, e _ _ h1, e _ _ h2, r⟩
theorem Ext.trans {a : Addr} {H H1 H2 : Hp} (x : Ext a H H1) (y : Ext a H1 H2) : Ext a H H2 := ⟨y.1, fun b o n h => y.2 b o n (x.2 b o n h)⟩
theorem Ext.same {a : Addr} {H H1 H2 : Hp} (x : Ext a H H1) (y : Same H1 H2) : Ext a H H2 := ⟨x.1.same y, fun b o n h => y b o (x.2 b o n h)⟩
theorem Ext.of {a : Addr} {H H1 : Hp} (d : DrawAt H a) (y : Same H H1) : Ext a H H1 := ⟨d.same y, fun b o _ h => y b o h⟩
theorem DrawAt.neT {H : Hp} {a b : Addr} {xs : List V} (d : DrawAt H a) (h : H b = some (.tup xs)) : b ≠ a := by
  obtain ⟨l, ns, i, left, seed, n, h1, h2, r⟩ := d
  exact ne_of h h1 (by intro e; unfold drawO at e; cases e)
/-- a tuple stays -/
theorem Ext.tup {a b : Addr} {H H1 : Hp} {xs : List V} (x : Ext a H H1) (d : DrawAt H a) (h : H b = some (.tup xs)) : H1 b = some (.tup xs) := x.2 b _ (d.neT h) h
/-! the longest list or tuple in it -/
mutual
def mxl : PyData → Nat
  | .list ds => max ds.length (mxlAll ds)
  | .tuple ds => max ds.length (mxlAll ds)
  | _ => 0
def mxlAll : List PyData → Nat
  | [] => 0
  | d :: r => max (mxl d) (mxlAll r)
end
theorem mxl_get : ∀ {ds : List PyData} {i : Nat} {d : PyData}, ds[i]? = some d → mxl d ≤ mxlAll ds
  | [], _, _, e => by simp at e
  | x :: r, 0, d, e => by
    simp at e
    subst e
    simp only [mxlAll]
    omega
  | x :: r, i + 1, d, e => by
    have := mxl_get (ds := r) (i := i) (d := d) (by simpa using e)
    simp only [mxlAll]
    omega
def spBegin (K : PySem.W.Frag) : Sp := fun vs H Q _ => ∃ (s : Addr) (ns : List Int), vs = [.ref s] ∧ SqL K H s (ns.map V.int) ∧ ∀ (a : Addr) (H' : Hp), H a = none → DrawAt H' a → Same H H' → Q (.ref a) H'
def spPick : Sp := fun vs H Q _ => ∃ (a : Addr) (many : Int), vs = [.ref a, .int many] ∧ DrawAt H a ∧ 1 ≤ many ∧ many < 1073741824 ∧
  ∀ (r : Int) (H' : Hp), 0 ≤ r → r < many → DrawAt H' a → (∀ b, b ≠ a → H' b = H b) → Q (.int r) H'
def spSame (K : PySem.W.Frag) (n : Nat) : Sp := fun vs H Q _ => ∃ (x y : V) (d : PyData), vs = [x, y] ∧ Dp K H x d ∧ Dp K H y d ∧ d.depth < n ∧ mxl d ≤ 100000 ∧ ∀ H', Same H H' → Q (.bl true) H'
theorem same_none {P : Program} {w : World} {K : PySem.W.Frag} {mg : Str → Option Value} {base : Heap} {f : Addr} {fd : FuncData} : FnOk P w K mg base CX0 0 f fd ["_law_found", "_law_due"] (spSame K 0) := by
  have no : ∀ vs H Q E, ¬ spSame K 0 vs H Q E := fun vs H Q E h => by
    obtain ⟨x, y, d, _, _, _, h1, _⟩ := h
    omega
  exact ⟨fun vs H Q E h => absurd h (no vs H Q E), fun A outer s H args us vs Q E _ _ _ _ h => absurd h (no vs H Q E)⟩
/-! ### isinstance -/
theorem kit2 {K : PySem.W.Frag} {a b c : String} {r1 r2 : Bool} (h : kitB a b = some r1) (h2 : kitB a c = some r2) : PySem.W.kitAny K (.type a) [.type b, .type c] = some (r1 || r2) := by
  refine kitAny_cons (kit_ty h) (fun e => ?_) (fun e => by rw [e]; rfl)
  rw [e, Bool.false_or]
  refine kitAny_cons (kit_ty h2) (fun e => ?_) (fun e => e)
  rw [e]
  rfl
theorem cls2 (b c : String) : Paired ClsV [.ty b, .ty c] [.type b, .type c] := .cons (.ty b) (.cons (.ty c) .nil)
theorem tyx_list {K : PySem.W.Frag} {H : Hp} {a : Addr} {xs : List V} (h : SqL K H a xs) : TyX K H (.ref a) (.type "list") := by
  rcases h with (h | ⟨o, h⟩) | ⟨o, its, n, h, c, _⟩
  · exact .base (.lst h)
  · exact .base (.frz h)
  · exact .kList h c
theorem tyx_tuple {K : PySem.W.Frag} {H : Hp} {a : Addr} {xs : List V} (h : SqT K H a xs) : TyX K H (.ref a) (.type "tuple") := by
  rcases h with (h | ⟨o, h⟩) | ⟨o, its, n, h, c, _⟩
  · exact .base (.tup h)
  · exact .fTuple h
  · exact .kTuple h c
theorem ixLk {X : Cx} {K : PySem.W.Frag} (h : X.K = K) : IxR X (rIxL K) := by subst h; exact ix_list
theorem ixTk {X : Cx} {K : PySem.W.Frag} (h : X.K = K) : IxR X (rIxT K) := by subst h; exact ix_tup
theorem ixQk {X : Cx} {K : PySem.W.Frag} (h : X.K = K) : IxR X (rIx K) := by subst h; exact ix_seq
theorem inDk {X : Cx} {K : PySem.W.Frag} (h : X.K = K) (hu : X.A.units + 65 < cLine) : OpR X (compareOp .In) (rInD K) := by subst h; exact op_inD hu
theorem ifT {c A B : Prop} [Decidable c] (h : c) (x : A) : if c then A else B := by rw [if_pos h]; exact x
theorem ifF {c A B : Prop} [Decidable c] (h : ¬ c) (x : B) : if c then A else B := by rw [if_neg h]; exact x
theorem cut_ints (ns : List Int) (lo hi : Option Int) : ∃ ms : List Int, cutV (ns.map V.int) lo hi = ms.map V.int := by
  unfold cutV
  exact ⟨_, by rw [← List.map_drop, ← List.map_take]⟩
theorem shaped_bool (b : Bool) : SeqAt.shaped (.bool b) = true := by simp [SeqAt.shaped, PyData.canLay0, PyData.depth]
theorem shaped_int (b : Int) : SeqAt.shaped (.int b) = true := by simp [SeqAt.shaped, PyData.canLay0, PyData.depth]
theorem shaped_eqv {d : PyData} (h : SeqAt.shaped d = true) : PyData.eqv d d = true := SeqAt.eqv_refl d (SeqAt.canLay_of_shaped h)
theorem depth_get : ∀ {ds : List PyData} {i : Nat} {d : PyData}, ds[i]? = some d → d.depth ≤ PyData.depthAll ds
  | [], _, _, e => by simp at e
  | x :: r, 0, d, e => by
    simp at e
    subst e
    simp only [PyData.depthAll]
    omega
  | x :: r, i + 1, d, e => by
    have := depth_get (ds := r) (i := i) (d := d) (by simpa using e)
    simp only [PyData.depthAll]
    omega
theorem rep_bl (n : Nat) : List.replicate n (V.bl true) = (List.replicate n true).map V.bl := by simp
theorem rep_all (n : Nat) : (List.replicate n true).all id = true := by simp
theorem rep_succ (n : Nat) : List.replicate n (V.bl true) ++ [V.bl true] = List.replicate (n + 1) (V.bl true) := by
  rw [← List.replicate_succ']
end Gs

set_option Elab.async false
set_option linter.all false
set_option maxRecDepth 100000
set_option maxHeartbeats 4000000
namespace Gs
open PySem L2
/-! ### methods of an own class -/
def Mn (P : Program) (w : World) (K : PySem.W.Frag) (mg : Str → Option Value) (base : Heap) (CX : CXT) (k : Nat) (C : Addr) (m : Str) (ps : List Str) (sp : Sp) : Prop :=
  ∃ (f : Addr) (fd : FuncData), FnOk P w K mg base CX k f fd ps sp ∧ Meth K C m f ∧ Binds K fd ps []
theorem Mn.mono {P : Program} {w : World} {K : PySem.W.Frag} {mg : Str → Option Value} {base : Heap} {CX : CXT} {j k : Nat} {C : Addr} {m : Str} {ps : List Str} {sp : Sp} (D : Mn P w K mg base CX j C m ps sp) (h : j ≤ k) : Mn P w K mg base CX k C m ps sp := by
  obtain ⟨f, fd, F, m, b⟩ := D
  exact ⟨f, fd, F.mono h, m, b⟩
theorem Mn.imp {P : Program} {w : World} {K : PySem.W.Frag} {mg : Str → Option Value} {base : Heap} {CX : CXT} {k : Nat} {C : Addr} {m : Str} {ps : List Str} {sp sp' : Sp} (D : Mn P w K mg base CX k C m ps sp) (h : ∀ vs H Q E, sp' vs H Q E → sp vs H Q E) : Mn P w K mg base CX k C m ps sp' := by
  obtain ⟨f, fd, F, m, b⟩ := D
  exact ⟨f, fd, F.imp h, m, b⟩
section
variable {X : Cx} {CX : CXT} {k : Nat} {C : Addr} {m : Str} {ps : List Str} {sp : Sp} {p pos apos : Pos} {e o : Expr} {es : List Expr} {ta : TE} {t : TA}
theorem pe_methD {E : XK} {pl : Sem Bool} (c : Cls X.K C) (D : Mn X.prog X.w X.K X.mg X.base CX k C m ps sp) (hr : Room k X.A) (hx : Passes CX X E) (he : PE X o ta) (ha : PA X (e :: es) t)
    (hst : starEach (e :: es) X.env = (false, eval e X.env) :: starEach es X.env := by rfl) (hpl : (backTo pos (starEach es X.env)).any (·.1) = false := by rfl)
    (ht : eval (.Call (.Attribute o m apos) (e :: es) [] pos) X.env = (do let ov ← eval o X.env; standAt apos.atName; let (f, first) ← holding [ov] (getMethod ov m pl); callWith pos f first (backTo pos (starEach (e :: es) X.env)) (backToKw pos (keywordEach [] X.env))) := by rfl) :
    PE X (.Call (.Attribute o m apos) (e :: es) [] pos) (tMeth C m sp [] E ta t) := by
  obtain ⟨f, fd, F, hm, b⟩ := D
  exact pe_meth he c hm F hr b .nil hx ha hst hpl ht
theorem pe_methD0 {E : XK} {pl : Sem Bool} (c : Cls X.K C) (D : Mn X.prog X.w X.K X.mg X.base CX k C m ps sp) (hr : Room k X.A) (hx : Passes CX X E) (he : PE X o ta)
    (ht : eval (.Call (.Attribute o m apos) [] [] pos) X.env = (do let ov ← eval o X.env; standAt apos.atName; let (f, first) ← holding [ov] (getMethod ov m pl); callWith pos f first (backTo pos (starEach [] X.env)) (backToKw pos (keywordEach [] X.env))) := by rfl) :
    PE X (.Call (.Attribute o m apos) [] [] pos) (tMeth C m sp [] E ta tNil) := by
  obtain ⟨f, fd, F, hm, b⟩ := D
  exact pe_meth0 he c hm F hr b .nil hx ht
/-- within a try: what is raised is wished for at the slots -/
def tMethAt (C : Addr) (m : Str) (sp : Sp) (E : St → XK) (ta : TE) (t : TA) : TE := fun σ H Q => ta σ H fun x H1 => ∃ a dx fs, x = .ref a ∧ H1 a = some (.ins C dx fs) ∧ fs.lookup m = none ∧ t σ H1 fun vs H2 => sp (x :: vs) H2 Q (E σ)
theorem pe_methSD {E : St → XK} {pl : Sem Bool} (c : Cls X.K C) (D : Mn X.prog X.w X.K X.mg X.base CX k C m ps sp) (hr : Room k X.A) (hx : ∀ σ, PassesAt CX X σ (E σ)) (he : PE X o ta) (ha : PA X (e :: es) t)
    (hst : starEach (e :: es) X.env = (false, eval e X.env) :: starEach es X.env := by rfl) (hpl : (backTo pos (starEach es X.env)).any (·.1) = false := by rfl)
    (ht : eval (.Call (.Attribute o m apos) (e :: es) [] pos) X.env = (do let ov ← eval o X.env; standAt apos.atName; let (f, first) ← holding [ov] (getMethod ov m pl); callWith pos f first (backTo pos (starEach (e :: es) X.env)) (backToKw pos (keywordEach [] X.env))) := by rfl) :
    PE X (.Call (.Attribute o m apos) (e :: es) [] pos) (tMethAt C m sp E ta t) := by
  obtain ⟨f, fd, F, hm, b⟩ := D
  refine ⟨fun pins s σ H Q I h => PySem.W.methodCall_KW (pl := pl) (thn (he.run pins s σ H _ I h) fun u s1 hh => ?_) ht⟩
  obtain ⟨x, H1, I1, rx, a, dx, fs, ex, ea, l, q⟩ := hh
  subst ex
  obtain rfl : u = Value.ref a := rx
  refine getmeth_ok I1 ea c hm l (PySem.W.callWith_K (first := [.ref a]) (h₀ := X.base) I.ok.mod.kin hm.kp (thn (ha.run pos pins s1 σ H1 _ I1 q) fun us s2 hh => ?_) hst hpl)
  obtain ⟨vs, H2, I2, r, q2⟩ := hh
  exact ⟨I2.kIn, run_fnS (us := .ref a :: us) (vs := .ref a :: vs) F hr b (hx σ) I2 (.cons rfl r) q2⟩
theorem fldK {K : PySem.W.Frag} {f : Str} (h : X.K = K) (he : PE X o ta) (hb : attributeBase o f X.env (eval o X.env) = eval o X.env) : PE X (.Attribute o f pos) (tFld K ta f) := by
  subst h
  exact pe_fld he hb
end
/-! ### ints that may be written in a text -/
def Sm (i : Int) : Prop := i.natAbs < 2 ^ 200
theorem Sm.log {i : Int} (h : Sm i) : i.natAbs.log2 < 1920 := by
  by_cases z : i.natAbs = 0
  · rw [z]
    decide
  · have h1 : i.natAbs.log2 < 200 := (Nat.log2_lt z).mpr h
    omega
theorem Sm.of {i : Int} (h0 : -(10 ^ 40) ≤ i) (h1 : i ≤ 10 ^ 40) : Sm i := by
  have : i.natAbs ≤ 10 ^ 40 := by omega
  exact Nat.lt_of_le_of_lt this (by decide)
theorem Sm.len {i : Int} (h : Sm i) : (Str.ofString (toString i)).length ≤ 201 := by
  have h1 : i.natAbs.log2 < 200 := by
    by_cases z : i.natAbs = 0
    · rw [z]
      decide
    · exact (Nat.log2_lt z).mpr h
  have e := PySem.int_text_length_le (k := 200) (by decide) h1
  rw [PySem.ofString_length]
  exact e
/-! ### repr of an own class -/
def rRepr (C : Addr) (sp : Sp) (E : XK) : List V → Hp → VK → Prop := fun xs H Q => ∃ a dx fs, xs = [.ref a] ∧ H a = some (.ins C dx fs) ∧ sp [.ref a] H (fun v H' => (∃ z, v = .str z) ∧ Q v H') E
theorem call_repr {X : Cx} {CX : CXT} {k : Nat} {C f : Addr} {fd : FuncData} {ps : List Str} {sp : Sp} {E : XK} (F : FnOk X.prog X.w X.K X.mg X.base CX k f fd ps sp) (hs : PySem.W.findIn X.K (.ref C) "__repr__" = some (some (.ref f))) (hf : PySem.W.isFn X.K (.ref f) = true)
    (hb : Binds X.K fd ps []) (hr : Room (k + 1) X.A) (hx : Passes CX X E) : CallR X (.builtin "repr") (rRepr C sp E) := by
  intro pins s σ H xs us Q I r h
  obtain ⟨a, dx, fs, rfl, ha, hsp⟩ := h
  obtain ⟨u, rfl, ru⟩ := vals1 r
  cases ru
  obtain ⟨mA, J, _⟩ := ins_get I.hok ha
  obtain ⟨od, J, _⟩ := J.look
  obtain ⟨m, hF⟩ := I.fr
  have e := I.env0
  have e0 : Env0 X.prog X.w X.K X.mg X.base X.A.in1 X.stack s H := ⟨e.frames, e.mod, e.bs, e.bsz, e.funs, e.frf, e.hok, e.bare⟩
  have hl := F.len _ _ _ _ hsp
  refine PySem.W.repr_K hr.in1.units0 hF I.ok.mod.kin J hs hf ?_
  have b0 := hb s [.ref a] I.kIn (by rw [List.append_nil]; exact hl)
  rw [List.append_nil] at b0
  refine wpAny_call (codeAny_mono (F.run X.A.in1 X.stack s H ⟨[.ref a], []⟩ [.ref a] [.ref a] _ E hr.in1 e0 b0 (.cons rfl .nil) hsp) fun r s' hq => ?_)
  cases r with
  | error e => exact hx pins σ H s e s' I hq
  | ok fl =>
    cases fl with
    | ret w =>
      obtain ⟨z, H', I', rz, ⟨y, ez⟩, ex⟩ := I.after hq
      subst ez
      obtain ⟨tk, rfl⟩ := rz
      exact ⟨.str y, H', I', ⟨tk, rfl⟩, ex⟩
    | next => exact False.elim hq
    | brk => exact False.elim hq
    | cont => exact False.elim hq
/-! ### a row of sizes -/
structure Sz where
  many : Int
  common : Int
  odd : List (Int × Int × Bool)
def fldZ (n c : Int) (d : Addr) : List (Str × V) := putF "odd" (.ref d) (putF "common" (.int c) (putF "many" (.int n) []))
theorem ne1 : ¬ (("many" : Str) = "common") := by decide +kernel
theorem ne2 : ¬ (("many" : Str) = "odd") := by decide +kernel
theorem ne3 : ¬ (("common" : Str) = "odd") := by decide +kernel
theorem fldZ_eq (n c : Int) (d : Addr) : fldZ n c d = ([("many", .int n), ("common", .int c), ("odd", .ref d)] : List (Str × V)) := by
  unfold fldZ
  simp only [putF, if_neg ne1, if_neg ne2, if_neg ne3]
theorem fz_many (n c : Int) (d : Addr) : (fldZ n c d).lookup ("many" : Str) = some (.int n) := by
  unfold fldZ
  rw [lookup_putF, if_neg ne2, lookup_putF, if_neg ne1, lookup_putF, if_pos rfl]
theorem fz_common (n c : Int) (d : Addr) : (fldZ n c d).lookup ("common" : Str) = some (.int c) := by
  unfold fldZ
  rw [lookup_putF, if_neg ne3, lookup_putF, if_pos rfl]
theorem fz_odd (n c : Int) (d : Addr) : (fldZ n c d).lookup ("odd" : Str) = some (.ref d) := by
  unfold fldZ
  rw [lookup_putF, if_pos rfl]
theorem fz_no (n c : Int) (d : Addr) {m : Str} (h1 : (decide (m = "many") || decide (m = "common") || decide (m = "odd")) = false := by decide +kernel) : (fldZ n c d).lookup m = none := by
  simp only [Bool.or_eq_false_iff, decide_eq_false_iff_not] at h1
  unfold fldZ
  rw [lookup_putF, if_neg h1.2, lookup_putF, if_neg h1.1.2, lookup_putF, if_neg h1.1.1]
  rfl
theorem fz_put_odd (n c : Int) (d e : Addr) : putF "odd" (.ref e) (fldZ n c d) = fldZ n c e := by
  rw [fldZ_eq, fldZ_eq]
  simp only [putF, if_neg ne2, if_neg ne3, if_true]
theorem fz_put_many (n m c : Int) (d : Addr) : putF "many" (.int m) (fldZ n c d) = fldZ m c d := by
  rw [fldZ_eq, fldZ_eq]
  simp only [putF, if_true]
theorem fz_few (n c : Int) (d : Addr) : (fldZ n c d).length < 1000 := by rw [fldZ_eq]; show 3 < 1000; decide
abbrev OddE := Int × Int × Bool
def OddAt (H : Hp) (kvs : List (Key × V)) (odd : List OddE) : Prop := Paired (fun (kv : Key × V) (e : OddE) => kv.1 = Sum.inl e.1 ∧ ∃ t, kv.2 = .ref t ∧ H t = some (.tup [.int e.2.1, .bl e.2.2])) kvs odd
/-- tuples stay -/
def TupSame (H H' : Hp) : Prop := ∀ t xs, H t = some (.tup xs) → H' t = some (.tup xs)
theorem TupSame.of {H H' : Hp} (s : Same H H') : TupSame H H' := fun t xs h => s t _ h
theorem TupSame.trans {H H1 H2 : Hp} (a : TupSame H H1) (b : TupSame H1 H2) : TupSame H H2 := fun t xs h => b t xs (a t xs h)
theorem TupSame.upd {H : Hp} {D : Addr} {u : HO} (h : H D = some u) (hu : ∀ xs, u ≠ .tup xs) (o : HO) : TupSame H (L2.upd H D o) := fun t xs q => by
  rw [upd_ne (ne_of q h (fun e => hu xs e.symm))]
  exact q
theorem OddAt.mono {H H' : Hp} (s : TupSame H H') : ∀ {kvs : List (Key × V)} {odd : List OddE}, OddAt H kvs odd → OddAt H' kvs odd
  | _, _, .nil => .nil
  | _, _, .cons ⟨e, t, e2, h⟩ r => .cons ⟨e, t, e2, s _ _ h⟩ (OddAt.mono s r)
theorem OddAt.len {H : Hp} : ∀ {kvs : List (Key × V)} {odd : List OddE}, OddAt H kvs odd → kvs.length = odd.length
  | _, _, .nil => rfl
  | _, _, .cons _ r => by simp [OddAt.len r]
theorem OddAt.keys {H : Hp} : ∀ {kvs : List (Key × V)} {odd : List OddE}, OddAt H kvs odd → kvs.map (·.1) = (odd.map (·.1)).map Sum.inl
  | _, _, .nil => rfl
  | _, _, .cons ⟨e, _⟩ r => by simp [OddAt.keys r, e]
def look (odd : List OddE) (i : Int) : Option (Int × Bool) := (odd.find? fun e => decide (e.1 = i)).map (·.2)
theorem OddAt.look {H : Hp} : ∀ {kvs : List (Key × V)} {odd : List OddE} (i : Int), OddAt H kvs odd → (valV kvs (Sum.inl i) = none ∧ Gs.look odd i = none) ∨ ∃ t x, valV kvs (Sum.inl i) = some (.ref t) ∧ Gs.look odd i = some x ∧ H t = some (.tup [.int x.1, .bl x.2])
  | _, _, i, .nil => .inl ⟨rfl, rfl⟩
  | (k, v) :: kvs, (j, x) :: odd, i, .cons ⟨e, t, e2, h⟩ r => by
    simp only at e e2 h
    subst e e2
    by_cases hij : j = i
    · subst hij
      exact .inr ⟨t, x, by simp [valV], by simp [Gs.look], h⟩
    · have q1 : valV ((Sum.inl j, V.ref t) :: kvs) (Sum.inl i) = valV kvs (Sum.inl i) := by simp [valV, hij]
      have q2 : Gs.look ((j, x) :: odd) i = Gs.look odd i := by simp [Gs.look, hij]
      rw [q1, q2]
      exact OddAt.look i r
structure Wf (z : Sz) : Prop where
  m0 : 1 ≤ z.many
  m1 : z.many ≤ 1000000000
  c0 : 1 ≤ z.common
  c1 : z.common ≤ 60
  nd : (z.odd.map (·.1)).Nodup
  le : z.odd.length ≤ 60
  ok : ∀ e ∈ z.odd, 0 ≤ e.1 ∧ e.1 < z.many ∧ 1 ≤ e.2.1 ∧ e.2.1 ≤ 60 ∧ (e.2.1 ≠ z.common ∨ e.2.2 = true)
/-- a row of sizes stands at p, its dict at d: to be read -/
def SzR (C : Addr) (H : Hp) (p d : Addr) (z : Sz) : Prop := ∃ dx kvs, H p = some (.ins C dx (fldZ z.many z.common d)) ∧ Rd H d (.dK kvs) ∧ OddAt H kvs z.odd ∧ Wf z
/-- .. to be written -/
def SzW (C : Addr) (H : Hp) (p d : Addr) (z : Sz) : Prop := ∃ dx kvs, H p = some (.ins C dx (fldZ z.many z.common d)) ∧ H d = some (.dK kvs) ∧ OddAt H kvs z.odd ∧ Wf z
theorem SzW.r {C : Addr} {H : Hp} {p d : Addr} {z : Sz} (h : SzW C H p d z) : SzR C H p d z := by
  obtain ⟨dx, kvs, h1, h2, h3, h4⟩ := h
  exact ⟨dx, kvs, h1, .inl h2, h3, h4⟩
theorem Same.rd {H H' : Hp} (s : Same H H') {d : Addr} {u : HO} (r : Rd H d u) : Rd H' d u := by
  rcases r with r | ⟨o, r⟩
  · exact .inl (s _ _ r)
  · exact .inr ⟨o, s _ _ r⟩
theorem SzR.same {C : Addr} {H H' : Hp} {p d : Addr} {z : Sz} (h : SzR C H p d z) (s : Same H H') : SzR C H' p d z := by
  obtain ⟨dx, kvs, h1, h2, h3, h4⟩ := h
  exact ⟨dx, kvs, s _ _ h1, Same.rd s h2, h3.mono (TupSame.of s), h4⟩
theorem SzW.same {C : Addr} {H H' : Hp} {p d : Addr} {z : Sz} (h : SzW C H p d z) (s : Same H H') : SzW C H' p d z := by
  obtain ⟨dx, kvs, h1, h2, h3, h4⟩ := h
  exact ⟨dx, kvs, s _ _ h1, s _ _ h2, h3.mono (TupSame.of s), h4⟩
def stM (z : Sz) (i : Int) : Int × Bool := (look z.odd i).getD (z.common, false)
def szM (z : Sz) (i : Int) : Int := if (stM z i).2 = true then 0 else (stM z i).1
def inR (z : Sz) (i : Int) : Prop := 0 ≤ i ∧ i < z.many
/-! ### what the program's defs promise -/
def spNum (cN : Addr) : Sp := fun vs H Q E => ∃ i n : Int, vs = [.int i, .int n] ∧ Sm i ∧ Sm n ∧ (0 ≤ i ∧ i < n → Q .non H) ∧ (¬ (0 ≤ i ∧ i < n) → E (.ref cN) none H)
def spCS (cS : Addr) : Sp := fun vs H Q E => ∃ i : Int, vs = [.int i] ∧ Sm i ∧ (1 ≤ i ∧ i ≤ 60 → Q .non H) ∧ (¬ (1 ≤ i ∧ i ≤ 60) → E (.ref cS) none H)
def spState (C cN : Addr) : Sp := fun vs H Q E => ∃ (p d : Addr) (z : Sz) (i : Int), vs = [.ref p, .int i] ∧ SzR C H p d z ∧ Sm i ∧
  (inR z i → ∀ (t : Addr) (H' : Hp), Same H H' → H' t = some (.tup [.int (stM z i).1, .bl (stM z i).2]) → Q (.ref t) H') ∧ (¬ inR z i → E (.ref cN) none H)
def spQ (C cN : Addr) (g : Sz → Int → V) : Sp := fun vs H Q E => ∃ (p d : Addr) (z : Sz) (i : Int), vs = [.ref p, .int i] ∧ SzR C H p d z ∧ Sm i ∧ (inR z i → ∀ H', Same H H' → Q (g z i) H') ∧ (¬ inR z i → E (.ref cN) none H)
abbrev spSize (C cN : Addr) : Sp := spQ C cN fun z i => .int (szM z i)
abbrev spOwn (C cN : Addr) : Sp := spQ C cN fun z i => .int (stM z i).1
abbrev spHid (C cN : Addr) : Sp := spQ C cN fun z i => .bl (stM z i).2
def ahM (z : Sz) (i : Int) : Int := i * z.common + (((z.odd.map (·.1)).filter fun k => decide (k < i)).map fun k => szM z k - z.common).sum
def spAhead (C cN : Addr) : Sp := fun vs H Q E => ∃ (p d : Addr) (z : Sz) (i : Int), vs = [.ref p, .int i] ∧ SzW C H p d z ∧ Sm i ∧ (0 ≤ i ∧ i ≤ z.many → ∀ H', Same H H' → Q (.int (ahM z i)) H') ∧ (¬ (0 ≤ i ∧ i ≤ z.many) → E (.ref cN) none H)
def spTotal (C : Addr) : Sp := fun vs H Q _ => ∃ (p d : Addr) (z : Sz), vs = [.ref p] ∧ SzW C H p d z ∧ ∀ H', Same H H' → Q (.int (ahM z z.many)) H'
def spInit (C cM cS : Addr) : Sp := fun vs H Q E => ∃ (p dx : Addr) (n c : Int), vs = [.ref p, .int n, .int c] ∧ H p = some (.ins C dx []) ∧ Sm n ∧ Sm c ∧
  ((1 ≤ n ∧ n ≤ 1000000) ∧ (1 ≤ c ∧ c ≤ 60) → ∀ (d : Addr) (H' : Hp), H d = none → SzW C H' p d ⟨n, c, []⟩ → (∀ b o, H b = some o → b ≠ p → H' b = some o) → Q .non H') ∧
  (¬ (1 ≤ n ∧ n ≤ 1000000) → E (.ref cM) none H) ∧ ((1 ≤ n ∧ n ≤ 1000000) → ¬ (1 ≤ c ∧ c ≤ 60) → E (.ref cS) none H)
/-! ### small words for the loops -/
theorem OddAt.at_ {H : Hp} : ∀ {kvs : List (Key × V)} {odd : List OddE} {j : Nat} {k : Key} {v : V}, OddAt H kvs odd → kvs[j]? = some (k, v) → ∃ e, odd[j]? = some e ∧ k = Sum.inl e.1
  | _, _, _, _, _, .nil, q => by simp at q
  | _, _, 0, _, _, .cons ⟨e, _⟩ _, q => by
    simp at q
    subst q
    exact ⟨_, rfl, e⟩
  | _, _, j + 1, _, _, .cons _ r, q => by simpa using OddAt.at_ (j := j) r (by simpa using q)
theorem take_filter1 {α : Type} (l : List α) (p : α → Bool) {i : Nat} {x : α} (h : l[i]? = some x) : (l.take (i + 1)).filter p = (l.take i).filter p ++ (if p x = true then [x] else []) := by
  rw [List.take_add_one, h, List.filter_append]
  simp [List.filter_cons]
theorem take_map1 {α β : Type} (l : List α) (g : α → β) {i : Nat} {x : α} (h : l[i]? = some x) : (l.take (i + 1)).map g = (l.take i).map g ++ [g x] := by
  rw [List.take_add_one, h, List.map_append]
  rfl
/-- rows of exceptions -/
abbrev Ex3 := Int × Int × Bool
def exc1 (z : Sz) (k : Int) : Ex3 := (k, (stM z k).1, (stM z k).2)
def exD (e : Ex3) : PyData := .tuple [.int e.1, .int e.2.1, .bool e.2.2]
def DpT (H : Hp) (xs : List V) (es : List Ex3) : Prop := Paired (fun (v : V) (e : Ex3) => ∃ t, v = .ref t ∧ H t = some (.tup [.int e.1, .int e.2.1, .bl e.2.2])) xs es
theorem DpT.mono {H H' : Hp} (s : TupSame H H') : ∀ {xs : List V} {cs : List Ex3}, DpT H xs cs → DpT H' xs cs
  | _, _, .nil => .nil
  | _, _, .cons ⟨t, e, h⟩ r => .cons ⟨t, e, s _ _ h⟩ (DpT.mono s r)
theorem DpT.append {H : Hp} : ∀ {xs ys : List V} {cs ds : List Ex3}, DpT H xs cs → DpT H ys ds → DpT H (xs ++ ys) (cs ++ ds)
  | _, _, _, _, .nil, s => s
  | _, _, _, _, .cons a r, s => .cons a (DpT.append r s)
theorem DpT.len {H : Hp} : ∀ {xs : List V} {cs : List Ex3}, DpT H xs cs → xs.length = cs.length
  | _, _, .nil => rfl
  | _, _, .cons _ r => by simp [DpT.len r]
theorem DpT.dp {K : PySem.W.Frag} {H : Hp} : ∀ {xs : List V} {cs : List Ex3}, DpT H xs cs → DpAll K H xs (cs.map exD)
  | _, _, .nil => .nil
  | _, _, .cons ⟨t, e, h⟩ r => by
    subst e
    exact .cons (.tup (SqT.of h) (.cons (.int _) (.cons (.int _) (.cons (.bl _) .nil)))) (DpT.dp r)
def spExc (K : PySem.W.Frag) (C : Addr) : Sp := fun vs H Q _ => ∃ (p d : Addr) (z : Sz), vs = [.ref p] ∧ SzW C H p d z ∧ ∀ (ys : List Int) (l : Addr) (H' : Hp), ys.Perm (z.odd.map (·.1)) → ys.Pairwise (· ≤ ·) → Same H H' → Dp K H' (.ref l) (.list ((ys.map (exc1 z)).map exD)) → Q (.ref l) H'
def reprM (z : Sz) : Str := Str.empty ++ ("Sizes " : Str) ++ (toString z.many : String) ++ (" " : Str) ++ (toString z.common : String)
def spRepr (C : Addr) : Sp := fun vs H Q _ => ∃ (p d : Addr) (z : Sz), vs = [.ref p] ∧ SzR C H p d z ∧ Q (.str (reprM z)) H
end Gs

set_option Elab.async false
set_option linter.all false
set_option maxRecDepth 100000
set_option maxHeartbeats 4000000
namespace Gs
open PySem L2
/-! ### the law's own model of a row of sizes: a dict of two counts and two dicts -/
structure Zs where
  many : Int
  common : Int
  own : List (Int × Int)
  gone : List Int
def zL (n c : Int) (o g : Addr) : List (Key × V) := [(Sum.inr "many", .int n), (Sum.inr "common", .int c), (Sum.inr "own", .ref o), (Sum.inr "gone", .ref g)]
theorem nz1 : ¬ ("many" : Str) = "common" := by decide +kernel
theorem nz2 : ¬ ("many" : Str) = "own" := by decide +kernel
theorem nz3 : ¬ ("many" : Str) = "gone" := by decide +kernel
theorem nz4 : ¬ ("common" : Str) = "own" := by decide +kernel
theorem nz5 : ¬ ("common" : Str) = "gone" := by decide +kernel
theorem nz6 : ¬ ("own" : Str) = "gone" := by decide +kernel
theorem zl_many (n c : Int) (o g : Addr) : some (V.int n) = valV (zL n c o g) (Sum.inr "many") := by simp [valV, zL]
theorem zl_common (n c : Int) (o g : Addr) : some (V.int c) = valV (zL n c o g) (Sum.inr "common") := by simp [valV, zL, nz1]
theorem zl_own (n c : Int) (o g : Addr) : some (V.ref o) = valV (zL n c o g) (Sum.inr "own") := by simp [valV, zL, nz2, nz4]
theorem zl_gone (n c : Int) (o g : Addr) : some (V.ref g) = valV (zL n c o g) (Sum.inr "gone") := by simp [valV, zL, nz3, nz5, nz6]
def ownK (l : List (Int × Int)) : List (Key × V) := l.map fun e => (Sum.inl e.1, .int e.2)
def goneK (l : List Int) : List (Key × V) := l.map fun k => (Sum.inl k, .bl true)
def zown (own : List (Int × Int)) (k : Int) : Option Int := (own.find? fun e => decide (e.1 = k)).map (·.2)
theorem own_val : ∀ (own : List (Int × Int)) (k : Int), valV (ownK own) (Sum.inl k) = (zown own k).map V.int
  | [], k => rfl
  | (j, x) :: r, k => by
    by_cases h : j = k
    · subst h
      simp [valV, ownK, zown]
    · have q1 : valV (ownK ((j, x) :: r)) (Sum.inl k) = valV (ownK r) (Sum.inl k) := by simp [valV, ownK, h]
      have q2 : zown ((j, x) :: r) k = zown r k := by simp [zown, h]
      rw [q1, q2]
      exact own_val r k
theorem gone_val : ∀ (gone : List Int) (k : Int), valV (goneK gone) (Sum.inl k) = if k ∈ gone then some (.bl true) else none
  | [], k => rfl
  | j :: r, k => by
    by_cases h : j = k
    · subst h
      simp [valV, goneK]
    · have h' : ¬ k = j := fun z => h z.symm
      have q1 : valV (goneK (j :: r)) (Sum.inl k) = valV (goneK r) (Sum.inl k) := by simp [valV, goneK, h]
      rw [q1, gone_val r k]
      simp [h']
theorem gone_some (gone : List Int) (k : Int) : (valV (goneK gone) (Sum.inl k)).isSome = decide (k ∈ gone) := by
  rw [gone_val]
  by_cases h : k ∈ gone
  · rw [if_pos h, decide_eq_true h]
    rfl
  · rw [if_neg h, decide_eq_false h]
    rfl
def zkeys (z : Zs) : List Int := z.own.map (·.1) ++ z.gone.filter fun k => !(zown z.own k).isSome
structure Zok (z : Zs) : Prop where
  m0 : 1 ≤ z.many
  m1 : z.many ≤ 1000000000
  c0 : 1 ≤ z.common
  c1 : z.common ≤ 60
  le : (zkeys z).length < 64
  l1 : z.own.length ≤ 1000
  l2 : z.gone.length ≤ 1000
  ok : ∀ k ∈ zkeys z, 0 ≤ k ∧ k < z.many
structure ZAt (H : Hp) (a o g : Addr) (z : Zs) : Prop where
  ha : H a = some (.dK (zL z.many z.common o g))
  ho : H o = some (.dK (ownK z.own))
  hg : H g = some (.dK (goneK z.gone))
  ao : a ≠ o
  ag : a ≠ g
  og : o ≠ g
  ok : Zok z
theorem ZAt.same {H H' : Hp} {a o g : Addr} {z : Zs} (h : ZAt H a o g z) (s : Same H H') : ZAt H' a o g z := ⟨s _ _ h.ha, s _ _ h.ho, s _ _ h.hg, h.ao, h.ag, h.og, h.ok⟩
theorem dg_many {H : Hp} {a o g : Addr} {n c : Int} (h : H a = some (.dK (zL n c o g))) : DGet H a (.str "many") (some (.int n)) := .inl ⟨_, Sum.inr "many", .inl h, rfl, zl_many n c o g⟩
theorem dg_common {H : Hp} {a o g : Addr} {n c : Int} (h : H a = some (.dK (zL n c o g))) : DGet H a (.str "common") (some (.int c)) := .inl ⟨_, Sum.inr "common", .inl h, rfl, zl_common n c o g⟩
theorem dg_own {H : Hp} {a o g : Addr} {n c : Int} (h : H a = some (.dK (zL n c o g))) : DGet H a (.str "own") (some (.ref o)) := .inl ⟨_, Sum.inr "own", .inl h, rfl, zl_own n c o g⟩
theorem dg_gone {H : Hp} {a o g : Addr} {n c : Int} (h : H a = some (.dK (zL n c o g))) : DGet H a (.str "gone") (some (.ref g)) := .inl ⟨_, Sum.inr "gone", .inl h, rfl, zl_gone n c o g⟩
theorem dg_own1 {H : Hp} {o : Addr} {own : List (Int × Int)} (h : H o = some (.dK (ownK own))) (k : Int) : DGet H o (.int k) ((zown own k).map V.int) := .inl ⟨_, Sum.inl k, .inl h, rfl, (own_val own k).symm⟩
theorem dg_gone1 {H : Hp} {g : Addr} {gone : List Int} (h : H g = some (.dK (goneK gone))) (k : Int) : DGet H g (.int k) (valV (goneK gone) (Sum.inl k)) := .inl ⟨_, Sum.inl k, .inl h, rfl, rfl⟩
def zst (z : Zs) (k : Int) : Int × Bool := ((zown z.own k).getD z.common, decide (k ∈ z.gone))
def zsz (z : Zs) (k : Int) : Int := if k ∈ z.gone then 0 else (zown z.own k).getD z.common
theorem opt_int (o : Option Int) (c : Int) : (o.map V.int).getD (.int c) = .int (o.getD c) := by cases o <;> rfl
def zah (z : Zs) (k : Int) : Int := k * z.common + (((zkeys z).filter fun j => decide (j < k)).map fun j => zsz z j - z.common).sum
def spZodd : Sp := fun vs H Q _ => ∃ (a o g : Addr) (z : Zs), vs = [.ref a] ∧ ZAt H a o g z ∧ ∀ (ys : List Int) (l : Addr) (H' : Hp), ys.Perm (zkeys z) → ys.Pairwise (· ≤ ·) → Same H H' → H' l = some (.lst (ys.map V.int)) → Q (.ref l) H'
def spZsize : Sp := fun vs H Q _ => ∃ (a o g : Addr) (z : Zs) (k : Int), vs = [.ref a, .int k] ∧ ZAt H a o g z ∧ Q (.int (zsz z k)) H
def spZahead : Sp := fun vs H Q _ => ∃ (a o g : Addr) (z : Zs) (k : Int), vs = [.ref a, .int k] ∧ ZAt H a o g z ∧ ∀ H', Same H H' → Q (.int (zah z k)) H'
/-- the two models say the same -/
structure Rel (s : Sz) (z : Zs) : Prop where
  many : s.many = z.many
  common : s.common = z.common
  st : ∀ k, stM s k = zst z k
  keys : (s.odd.map (·.1)).Perm (zkeys z)
theorem Rel.sz {s : Sz} {z : Zs} (r : Rel s z) (k : Int) : szM s k = zsz z k := by
  unfold szM zsz
  rw [r.st k]
  unfold zst
  by_cases h : k ∈ z.gone
  · simp [h]
  · simp [h]
theorem perm_sum {l l' : List Int} (p : l.Perm l') : l.sum = l'.sum := by
  induction p with
  | nil => rfl
  | cons x _ ih => simp [ih]
  | swap x y l => simp only [List.sum_cons]; omega
  | trans _ _ h1 h2 => rw [h1, h2]
theorem Rel.ah {s : Sz} {z : Zs} (r : Rel s z) (k : Int) : ahM s k = zah z k := by
  unfold ahM zah
  rw [r.common]
  congr 1
  have e : (fun j => szM s j - z.common) = fun j => zsz z j - z.common := by
    funext j
    rw [r.sz j]
  rw [e]
  exact perm_sum ((r.keys.filter _).map _)
theorem sorted_eq {l l' : List Int} (p : l.Perm l') (h : l.Pairwise (· ≤ ·)) (h' : l'.Pairwise (· ≤ ·)) : l = l' := by
  refine List.Perm.eq_of_pairwise (le := fun a b => a ≤ b) ?_ h h' p
  intro a b _ _ h1 h2
  omega
def spZst (K : PySem.W.Frag) (C : Addr) : Sp := fun vs H Q _ => ∃ (p d a o g l : Addr) (s : Sz) (z : Zs) (ns : List Int), vs = [.ref p, .ref a, .ref l] ∧ SzW C H p d s ∧ ZAt H a o g z ∧ Rel s z ∧ H l = some (.lst (ns.map V.int)) ∧ ns.length ≤ 1000 ∧ (∀ n ∈ ns, Sm n) ∧ ∀ H', Same H H' → Q (.bl true) H'
def spFar : Sp := fun vs H Q _ => ∃ a : Addr, vs = [.ref a] ∧ DrawAt H a ∧ ∀ (i : Int) (H' : Hp), Sm i → (i < -1000000 ∨ 1000000 < i) → Ext a H H' → Q (.int i) H'
def spZnew : Sp := fun vs H Q _ => ∃ n c : Int, vs = [.int n, .int c] ∧ (1 ≤ n ∧ n ≤ 1000000000) ∧ (1 ≤ c ∧ c ≤ 60) ∧ ∀ (a o g : Addr) (H' : Hp), Same H H' → ZAt H' a o g ⟨n, c, [], []⟩ → H a = none → H o = none → H g = none → Q (.ref a) H'
theorem Ext.pick {a : Addr} {H H1 : Hp} (d : DrawAt H1 a) (e : ∀ b, b ≠ a → H1 b = H b) : Ext a H H1 := ⟨d, fun b o n h => by rw [e b n]; exact h⟩
/-- a caught error asked for its class -/
def rIsX (K : PySem.W.Frag) (a : Addr) (cls : Value) (d : Option Addr) : List V → Hp → VK → Prop := fun xs H Q => ∃ (D : Addr) (c : V) (cv : Value) (b : Bool), cls = .ref D ∧ d = none ∧ ExcC K D ∧ xs = [.ref a, c] ∧ (∀ u, RelV c u → u = cv) ∧ PySem.W.kitOne K (.ref D) cv = some b ∧ Q (.bl b) H
theorem call_isX {X : Cx} {a : Addr} {oe : Obj} {cls : Value} {d : Option Addr} {pn : List (Addr × Obj)} (hz : Zc cls d oe) (hf : ∃ vs, oe.data = .fields vs) : CallR (X.suite a ((a, oe) :: pn)) (.builtin "isinstance") (rIsX X.K a cls d) := by
  intro pins s σ H xs us Q I r h
  obtain ⟨D, c, cv, b, rfl, rfl, e, h1, h2, h3, q⟩ := h
  exact call_isE e hz hf pins s σ H xs us Q I r ⟨c, cv, b, h1, h2, h3, q⟩
theorem glR {X : Cx} {x : Str} {C : Addr} {pos : Pos} (hg : Gl X x) (hm : X.mg x = some (.ref C)) (hd : (x == ("__debug__" : Str)) = false := by decide) : PE X (.Name x pos) (tC (.ref C)) := pe_glob hg hm rfl hd
theorem kit_own {K : PySem.W.Frag} {D C : Addr} {b : Bool} (hne : D ≠ C) (hc : PySem.W.isClsIn K C = true) (ht : PySem.W.typeIn K (.ref C) = some (.type "type")) (hs : PySem.W.subIn K (.ref D) (.ref C) = some b) : PySem.W.kitOne K (.ref D) (.ref C) = some b := by
  have h2 : (PySem.W.clsIn K C).isSome = true := hc
  have h1 : PySem.W.kitCls K (.ref D) (.ref C) = some b := by
    show (if ((PySem.W.clsIn K C).isSome && PySem.W.typeIn K (.ref C) == some (.type "type")) = true then PySem.W.subIn K (.ref D) (.ref C) else none) = some b
    rw [h2, ht, if_pos (by simp)]
    exact hs
  unfold PySem.W.kitOne
  rw [if_neg (by simpa using hne)]
  exact h1
theorem kit_same {K : PySem.W.Frag} {D : Addr} : PySem.W.kitOne K (.ref D) (.ref D) = some true := by
  unfold PySem.W.kitOne
  rw [if_pos (by simp)]
theorem kit_tyE {K : PySem.W.Frag} {D : Addr} {T : String} {b : Bool} (hm : PySem.W.kitMeta T = true) (hs : PySem.W.subIn K (.ref D) (.type T) = some b) : PySem.W.kitOne K (.ref D) (.type T) = some b := by
  unfold PySem.W.kitOne
  rw [if_neg (by simp)]
  show (if PySem.W.kitMeta T = true then PySem.W.subIn K (.ref D) (.type T) else none) = some b
  rw [if_pos hm]
  exact hs
theorem rel_ty {T : String} : ∀ u, RelV (.ty T) u → u = .type T := fun u h => h
theorem rel_ref {C : Addr} : ∀ u, RelV (.ref C) u → u = .ref C := fun u h => h
theorem call_reprD {X : Cx} {CX : CXT} {k : Nat} {C : Addr} {ps : List Str} {sp : Sp} {E : XK} (D : Mn X.prog X.w X.K X.mg X.base CX k C "__repr__" ps sp) (hr : Room (k + 1) X.A) (hx : Passes CX X E) : CallR X (.builtin "repr") (rRepr C sp E) := by
  obtain ⟨f, fd, F, hm, b⟩ := D
  exact call_repr F hm.at_ hm.fn b hr hx
def zexc (z : Zs) (k : Int) : Ex3 := (k, (zst z k).1, (zst z k).2)
theorem Rel.exc {s : Sz} {z : Zs} (r : Rel s z) (k : Int) : exc1 s k = zexc z k := by
  unfold exc1 zexc
  rw [r.st k]
def reprZ (n c : Int) : Str := ("Sizes " : Str) ++ (toString n : String) ++ (" " : Str) ++ (toString c : String)
theorem Rel.repr {s : Sz} {z : Zs} (r : Rel s z) : reprM s = reprZ z.many z.common := by
  unfold reprM reprZ
  rw [r.many, r.common, PySem.Str.empty_append]
theorem ex_mxl : ∀ es : List Ex3, mxlAll (es.map exD) ≤ 3
  | [] => by simp [mxlAll]
  | e :: r => by
    have := ex_mxl r
    simp only [List.map_cons, mxlAll, exD, mxl, List.length_cons, List.length_nil]
    omega
theorem ex_depth : ∀ es : List Ex3, PyData.depthAll (es.map exD) ≤ 1
  | [] => by simp [PyData.depthAll]
  | e :: r => by
    have := ex_depth r
    simp only [List.map_cons, PyData.depthAll, exD, PyData.depth]
    omega
end Gs
namespace Gs
open PySem L2
/-! ### an instance made with a keyword-only argument -/
def Cn (P : Program) (w : World) (K : PySem.W.Frag) (mg : Str → Option Value) (base : Heap) (CX : CXT) (k : Nat) (C : Addr) (x : Str) (sp : Sp) : Prop :=
  ∃ (f : Addr) (fd : FuncData), FnOk P w K mg base CX k f fd ["self", "many", "common"] sp ∧ Mk K C f ∧ mg x = some (.ref C) ∧ KBn K fd ["self", "many", "common"] 2 ["common"] (fun us ws => us ++ ws) (fun vs zs => vs ++ zs)
section
variable {X : Cx} {CX : CXT} {k : Nat} {C : Addr} {sp : Sp} {x : Str} {p pos : Pos} {e : Expr} {kws : List Keyword} {t tk : TA}
theorem pe_mkD {E : XK} (D : Cn X.prog X.w X.K X.mg X.base CX k C x sp) (hr : Room (k + 1) X.A) (hg : Gl X x) (hx : Passes CX X E) (ha : PA X [e] t) (hkw : PK X kws tk)
    (hall : (backToKw pos (keywordEach kws X.env)).all (·.1.isSome) = true := by rfl) (hks : (backToKw pos (keywordEach kws X.env)).filterMap (·.1) = ([("common" : Str)] : List Str) := by rfl) (hdb : (x == ("__debug__" : Str)) = false := by decide)
    (he : starEach [e] X.env = (false, eval e X.env) :: starEach [] X.env := by rfl) (hpl : ((backTo pos (starEach [e] X.env)).any (·.1) || (backToKw pos (keywordEach kws X.env)).any (·.1.isNone)) = false := by rfl) :
    PE X (.Call (.Name x p) [e] kws pos) (tMakeK C 1 1 sp (fun vs zs => vs ++ zs) E t tk) := by
  obtain ⟨f, fd, F, M, m, b⟩ := D
  exact pe_makeK M F hr hg m b hx ha hkw hall hks hdb he hpl
def tMakeAt (C : Addr) (sp : Sp) (E : St → XK) (t tk : TA) : TE := fun σ H Q => t σ H fun vs H1 => tk σ H1 fun zs H2 => vs.length = 1 ∧ zs.length = 1 ∧ ∀ x dx, H2 x = none → H2 dx = none → dx ≠ x →
  sp ((.ref x :: vs) ++ zs) (upd (upd H2 dx (.own x)) x (.ins C dx [])) (fun v H3 => v = .non ∧ Q (.ref x) H3) (E σ)
theorem pe_mkSD {E : St → XK} (D : Cn X.prog X.w X.K X.mg X.base CX k C x sp) (hr : Room (k + 1) X.A) (hg : Gl X x) (hx : ∀ σ, PassesAt CX X σ (E σ)) (ha : PA X [e] t) (hkw : PK X kws tk)
    (hall : (backToKw pos (keywordEach kws X.env)).all (·.1.isSome) = true := by rfl) (hks : (backToKw pos (keywordEach kws X.env)).filterMap (·.1) = ([("common" : Str)] : List Str) := by rfl) (hdb : (x == ("__debug__" : Str)) = false := by decide)
    (he : starEach [e] X.env = (false, eval e X.env) :: starEach [] X.env := by rfl) (hpl : ((backTo pos (starEach [e] X.env)).any (·.1) || (backToKw pos (keywordEach kws X.env)).any (·.1.isNone)) = false := by rfl) :
    PE X (.Call (.Name x p) [e] kws pos) (tMakeAt C sp E t tk) := by
  obtain ⟨f, fd, F, M, m, hb⟩ := D
  refine ⟨fun pins s σ H Q I h => wpAny_Call_Name_kw (ld_glob I hg m (PySem.W.callWith_KW (h₀ := X.base) I.ok.mod.kin M.kp hall (thn (ha.run pos pins s σ H _ I h) fun us s1 hh => ?_) hpl he) hdb)⟩
  obtain ⟨vs, H1, I1, r, q⟩ := hh
  refine thn (hkw.run pos pins s1 σ H1 _ I1 q) fun ws s2 hh => ?_
  obtain ⟨zs, H2, I2, rz, l1, l2, q2⟩ := hh
  refine ⟨I2.kIn, ?_⟩
  rw [hks]
  obtain ⟨y, ey⟩ : ∃ y, y = s2.heap.objs.size := ⟨_, rfl⟩
  have hq := q2 (y + 1) y (I2.hok.fresh (by omega)) (I2.hok.fresh (by omega)) (Nat.ne_of_lt (Nat.lt_succ_self y))
  subst ey
  have J := Inv.made (C := C) I2
  have n1 : (Value.ref (s2.heap.objs.size + 1) :: us).length = 2 := by rw [List.length_cons, ← r.length, l1]
  have n2 : ws.length = 1 := by rw [← rz.length, l2]
  have b2 := hb.to _ (Value.ref (s2.heap.objs.size + 1) :: us) ws J.kIn n1 n2
  have r2 : Vals ((V.ref (s2.heap.objs.size + 1) :: vs) ++ zs) ((Value.ref (s2.heap.objs.size + 1) :: us) ++ ws) := Vals.append (.cons rfl r) rz
  refine wpAny_call (make_map (f := f) I2.kIn M.makes M.init (beq_iff_eq.mp M.fn) (codeAny_mono (F.run _ X.stack _ _ ⟨_, ([("common" : Str)] : List Str).zip ws⟩ _ _ _ (E σ) (hr.make C us _) (J.env0.make C us _) b2 r2 hq) fun rr s' hq' => ?_))
  cases rr with
  | error e => exact hx σ pins _ _ e s' J hq'
  | ok fl =>
    cases fl with
    | ret u =>
      obtain ⟨v, H', I3, rv, ev, q3⟩ := J.after hq'
      subst ev
      exact ⟨rv, V.ref _, H', I3, rfl, q3⟩
    | next => exact False.elim hq'
    | brk => exact False.elim hq'
    | cont => exact False.elim hq'
end
end Gs
namespace Gs
open PySem L2
def Cn1 (P : Program) (w : World) (K : PySem.W.Frag) (mg : Str → Option Value) (base : Heap) (CX : CXT) (k : Nat) (C : Addr) (x : Str) (sp : Sp) : Prop :=
  ∃ (f : Addr) (fd : FuncData) (ds : List Value), FnOk P w K mg base CX k f fd ["self", "many", "common"] sp ∧ Mk K C f ∧ mg x = some (.ref C) ∧ Vals [.int 1] ds ∧ Binds K fd ["self", "many", "common"] ds
theorem pe_mk1D {X : Cx} {CX : CXT} {k : Nat} {C : Addr} {sp : Sp} {x : Str} {p pos : Pos} {e : Expr} {t : TA} {E : XK} (D : Cn1 X.prog X.w X.K X.mg X.base CX k C x sp) (hr : Room (k + 1) X.A) (hg : Gl X x) (hx : Passes CX X E) (ha : PA X [e] t) (hdb : (x == ("__debug__" : Str)) = false := by decide)
    (he : starEach [e] X.env = (false, eval e X.env) :: starEach [] X.env := by rfl) (hpl : (backTo pos (starEach [] X.env)).any (·.1) = false := by rfl) : PE X (.Call (.Name x p) [e] [] pos) (tMake C sp [.int 1] E t) := by
  obtain ⟨f, fd, ds, F, M, m, v, b⟩ := D
  exact pe_make M F hr hg m b v hx ha hdb he hpl
def EqR0 (C : Addr) (a b : Addr) (H : Hp) : Prop := ∃ d e n c, SzW C H a d ⟨n, c, []⟩ ∧ SzW C H b e ⟨n, c, []⟩
theorem op_eqOwn {X : Cx} {CX : CXT} {k : Nat} {C : Addr} {ps : List Str} {R : Addr → Addr → Hp → Prop} {E : XK} (D : Mn X.prog X.w X.K X.mg X.base CX k C "__eq__" ps (spEq R)) (hr : Room k X.A) (hx : Passes CX X E) : OpR X (compareOp .Eq) (rEqG (DIns C R)) := by
  obtain ⟨f, fd, F, hm, b⟩ := D
  exact op_eqG (rcG_ins F hm.at_ hm.fn b hx) hr
theorem new2 {H : Hp} {x dx : Addr} (hx : H x = none) (hd : H dx = none) (ne : dx ≠ x) (o u : HO) : Same H (upd (upd H dx o) x u) := fun b v q => by
  rw [upd_ne (ne_of_none q hx), upd_ne (ne_of_none q hd)]
  exact q
def goodS (n c : Int) : Prop := (1 ≤ n ∧ n ≤ 1000000) ∧ (1 ≤ c ∧ c ≤ 60)
def spMade (C : Addr) : Sp := fun vs H Q _ => ∃ n c : Int, vs = [.int n, .int c] ∧ Sm n ∧ Sm c ∧ (goodS n c → ∀ (p d : Addr) (H' : Hp), Same H H' → SzW C H' p d ⟨n, c, []⟩ → Q (.ref p) H') ∧
  (¬ goodS n c → ∀ (l : Addr) (H' : Hp), Same H H' → H' l = some (.lst [.bl (!decide (1 ≤ n ∧ n ≤ 1000000)), .bl (decide (1 ≤ n ∧ n ≤ 1000000)), .bl true]) → Q (.ref l) H')
def spRef (C : Addr) : Sp := fun vs H Q _ => ∃ (p d : Addr) (z : Sz) (i way : Int), vs = [.ref p, .int i, .int way] ∧ SzW C H p d z ∧ Sm i ∧ (0 ≤ way ∧ way < 4) ∧ (way = 3 → ¬ (0 ≤ i ∧ i ≤ z.many)) ∧ (way ≠ 3 → ¬ inR z i) ∧ ∀ H', Same H H' → Q (.bl true) H'
theorem merge_zL (n c : Int) (o g : Addr) : mergeK [] (zL n c o g) = zL n c o g := by
  simp [mergeK, zL, putK, nz1, nz2, nz3, nz4, nz5, nz6]
end Gs

set_option Elab.async false
set_option linter.all false
set_option maxRecDepth 100000
set_option maxHeartbeats 4000000
namespace Gs
open PySem L2
/-! ### what is kept of a thing -/
def dropO (odd : List OddE) (i : Int) : List OddE := odd.filter fun e => decide (e.1 ≠ i)
def putO (odd : List OddE) (i : Int) (x : Int × Bool) : List OddE := if (odd.any fun e => decide (e.1 = i)) = true then odd.map (fun e => if e.1 = i then (e.1, x) else e) else odd ++ [(i, x)]
theorem inl_eq {a b : Int} : ((Sum.inl a : Key) = Sum.inl b) ↔ a = b := ⟨fun h => by injection h, fun h => by rw [h]⟩
theorem OddAt.drop {H : Hp} (i : Int) : ∀ {kvs : List (Key × V)} {odd : List OddE}, OddAt H kvs odd → OddAt H (dropK kvs (Sum.inl i)) (dropO odd i)
  | _, _, .nil => .nil
  | (k, v) :: kvs, e :: odd, .cons ⟨h1, t, h2, h3⟩ r => by
    have ih := OddAt.drop i r
    simp only at h1
    subst h1
    unfold dropK dropO at *
    by_cases h : e.1 = i
    · rw [List.filter_cons_of_neg (by simp [h]), List.filter_cons_of_neg (by simp [h])]
      exact ih
    · rw [List.filter_cons_of_pos (by simp [h]), List.filter_cons_of_pos (by simp [h])]
      exact .cons ⟨rfl, t, h2, h3⟩ ih
theorem OddAt.any {H : Hp} (i : Int) : ∀ {kvs : List (Key × V)} {odd : List OddE}, OddAt H kvs odd → (kvs.any fun kv => decide (kv.1 = Sum.inl i)) = odd.any fun e => decide (e.1 = i)
  | _, _, .nil => rfl
  | (k, v) :: kvs, e :: odd, .cons ⟨h1, _⟩ r => by
    simp only at h1
    subst h1
    rw [List.any_cons, List.any_cons, OddAt.any i r]
    congr 1
    exact decide_eq_decide.mpr inl_eq
theorem OddAt.mapped {H : Hp} (i : Int) {t : Addr} {x : Int × Bool} (ht : H t = some (.tup [.int x.1, .bl x.2])) : ∀ {kvs : List (Key × V)} {odd : List OddE}, OddAt H kvs odd → OddAt H (kvs.map fun kv => if kv.1 = Sum.inl i then (kv.1, .ref t) else kv) (odd.map fun e => if e.1 = i then (e.1, x) else e)
  | _, _, .nil => .nil
  | (k, v) :: kvs, e :: odd, .cons ⟨h1, u, h2, h3⟩ r => by
    simp only at h1
    subst h1
    rw [List.map_cons, List.map_cons]
    by_cases h : e.1 = i
    · rw [if_pos h, if_pos (inl_eq.mpr h)]
      exact .cons ⟨rfl, t, rfl, ht⟩ (OddAt.mapped i ht r)
    · rw [if_neg h, if_neg (fun z => h (inl_eq.mp z))]
      exact .cons ⟨rfl, u, h2, h3⟩ (OddAt.mapped i ht r)
theorem OddAt.snoc {H : Hp} {t : Addr} {i : Int} {x : Int × Bool} (ht : H t = some (.tup [.int x.1, .bl x.2])) : ∀ {kvs : List (Key × V)} {odd : List OddE}, OddAt H kvs odd → OddAt H (kvs ++ [(Sum.inl i, .ref t)]) (odd ++ [(i, x)])
  | _, _, .nil => .cons ⟨rfl, t, rfl, ht⟩ .nil
  | _, _, .cons a r => .cons a (OddAt.snoc ht r)
theorem OddAt.put {H : Hp} {t : Addr} {i : Int} {x : Int × Bool} (ht : H t = some (.tup [.int x.1, .bl x.2])) {kvs : List (Key × V)} {odd : List OddE} (h : OddAt H kvs odd) : OddAt H (putK kvs (Sum.inl i) (.ref t)) (putO odd i x) := by
  unfold putK putO
  rw [h.any i]
  by_cases c : (odd.any fun e => decide (e.1 = i)) = true
  · rw [if_pos c, if_pos c]
    exact h.mapped i ht
  · rw [if_neg c, if_neg c]
    exact h.snoc ht
/-! ### what a look finds behind it -/
theorem look_cons (e : OddE) (r : List OddE) (k : Int) : look (e :: r) k = if e.1 = k then some e.2 else look r k := by
  by_cases h : e.1 = k
  · simp [look, h]
  · simp [look, h]
theorem look_append (a b : List OddE) (k : Int) : look (a ++ b) k = (look a k).or (look b k) := by
  induction a with
  | nil => simp [look]
  | cons e r ih =>
    rw [List.cons_append, look_cons, look_cons, ih]
    by_cases h : e.1 = k
    · simp [h]
    · simp [h]
theorem look_drop (odd : List OddE) (i k : Int) : look (dropO odd i) k = if k = i then none else look odd k := by
  induction odd with
  | nil => simp [dropO, look]
  | cons e r ih =>
    unfold dropO at *
    by_cases h : e.1 = i
    · rw [List.filter_cons_of_neg (by simp [h]), ih, look_cons]
      by_cases hk : k = i
      · simp [hk]
      · have : ¬ e.1 = k := fun z => hk (by omega)
        simp [hk, this]
    · rw [List.filter_cons_of_pos (by simp [h]), look_cons, look_cons, ih]
      by_cases hk : e.1 = k
      · have : ¬ k = i := fun z => h (by omega)
        simp [hk, this]
      · simp [hk]
theorem look_mapped (odd : List OddE) (i k : Int) (x : Int × Bool) : look (odd.map fun e => if e.1 = i then (e.1, x) else e) k = (look odd k).map fun y => if k = i then x else y := by
  induction odd with
  | nil => simp [look]
  | cons e r ih =>
    rw [List.map_cons, look_cons, look_cons, ih]
    by_cases h : e.1 = i
    · rw [if_pos h]
      by_cases hk : e.1 = k
      · have : k = i := by omega
        simp [hk, this]
      · simp [hk]
    · rw [if_neg h]
      by_cases hk : e.1 = k
      · have : ¬ k = i := by omega
        simp [hk, this]
      · simp [hk]
theorem look_any (odd : List OddE) (i : Int) : (odd.any fun e => decide (e.1 = i)) = (look odd i).isSome := by
  induction odd with
  | nil => rfl
  | cons e r ih =>
    rw [List.any_cons, look_cons, ih]
    by_cases h : e.1 = i
    · simp [h]
    · simp [h]
theorem look_put (odd : List OddE) (i k : Int) (x : Int × Bool) : look (putO odd i x) k = if k = i then some x else look odd k := by
  unfold putO
  rw [look_any]
  by_cases c : (look odd i).isSome = true
  · rw [if_pos c, look_mapped]
    by_cases h : k = i
    · subst h
      rw [if_pos rfl]
      obtain ⟨y, e⟩ := Option.isSome_iff_exists.mp c
      rw [e]
      simp
    · simp [h]
  · rw [if_neg c, look_append]
    have c' : look odd i = none := by simpa using c
    by_cases h : k = i
    · subst h
      rw [c']
      simp [look]
    · have : look [(i, x)] k = none := by simp [look]; omega
      rw [this]
      simp [h]
theorem look_mem {odd : List OddE} {i : Int} {x : Int × Bool} (h : look odd i = some x) : (i, x) ∈ odd := by
  induction odd with
  | nil => cases h
  | cons e r ih =>
    rw [look_cons] at h
    by_cases c : e.1 = i
    · rw [if_pos c] at h
      have := Option.some.inj h
      subst this
      rw [← c]
      exact List.mem_cons_self
    · rw [if_neg c] at h
      exact List.mem_cons_of_mem _ (ih h)
theorem look_key {odd : List OddE} {i : Int} : i ∈ odd.map (·.1) ↔ (look odd i).isSome = true := by
  rw [← look_any, List.any_eq_true]
  simp only [List.mem_map, decide_eq_true_eq]
theorem look_of {odd : List OddE} (nd : (odd.map (·.1)).Nodup) {e : OddE} (h : e ∈ odd) : look odd e.1 = some e.2 := by
  induction odd with
  | nil => cases h
  | cons f r ih =>
    rw [List.map_cons, List.nodup_cons] at nd
    rw [look_cons]
    rcases List.mem_cons.mp h with rfl | h
    · rw [if_pos rfl]
    · have : ¬ f.1 = e.1 := fun z => nd.1 (by rw [z]; exact List.mem_map_of_mem h)
      rw [if_neg this]
      exact ih nd.2 h
def keepM (z : Sz) (i own : Int) (hid : Bool) : Sz := ⟨z.many, z.common, if own = z.common ∧ hid = false then dropO z.odd i else putO z.odd i (own, hid)⟩
def fullM (z : Sz) (i own : Int) (hid : Bool) : Prop := ¬ (own = z.common ∧ hid = false) ∧ look z.odd i = none ∧ 60 ≤ z.odd.length
theorem keep_st {z : Sz} {i own : Int} {hid : Bool} (k : Int) : stM (keepM z i own hid) k = if k = i then (own, hid) else stM z k := by
  unfold stM keepM
  by_cases c : own = z.common ∧ hid = false
  · simp only [if_pos c]
    rw [look_drop]
    by_cases h : k = i
    · simp [h, c.1, c.2]
    · simp [h]
  · simp only [if_neg c]
    rw [look_put]
    by_cases h : k = i
    · simp [h]
    · simp [h]
theorem nodup_filter {α : Type} {p : α → Bool} {l : List α} (h : l.Nodup) : (l.filter p).Nodup := List.Pairwise.filter p h
theorem map_filter_key (odd : List OddE) (i : Int) : (dropO odd i).map (·.1) = (odd.map (·.1)).filter fun k => decide (k ≠ i) := by
  unfold dropO
  rw [List.filter_map]
  rfl
theorem map_mapped_key (odd : List OddE) (i : Int) (x : Int × Bool) : (odd.map fun e => if e.1 = i then (e.1, x) else e).map (·.1) = odd.map (·.1) := by
  rw [List.map_map]
  refine List.map_congr_left fun e _ => ?_
  show (if e.1 = i then (e.1, x) else e).1 = e.1
  by_cases h : e.1 = i
  · rw [if_pos h]
  · rw [if_neg h]
theorem putO_len (odd : List OddE) (i : Int) (x : Int × Bool) : (putO odd i x).length ≤ odd.length + 1 := by
  unfold putO
  split
  · rw [List.length_map]; omega
  · rw [List.length_append]; exact Nat.le_refl _
theorem keep_len (z : Sz) (i own : Int) (hid : Bool) : (keepM z i own hid).odd.length ≤ z.odd.length + 1 := by
  unfold keepM
  by_cases c : own = z.common ∧ hid = false
  · simp only [if_pos c]
    exact Nat.le_succ_of_le (List.length_filter_le _ _)
  · simp only [if_neg c]
    exact putO_len _ _ _
theorem keep_wf {z : Sz} {i own : Int} {hid : Bool} (W : Wf z) (hi : inR z i) (h0 : 1 ≤ own) (h1 : own ≤ 60) (nf : ¬ fullM z i own hid) : Wf (keepM z i own hid) := by
  obtain ⟨m0, m1, c0, c1, nd, le, ok⟩ := W
  by_cases c : own = z.common ∧ hid = false
  · have e : keepM z i own hid = ⟨z.many, z.common, dropO z.odd i⟩ := by unfold keepM; simp only [if_pos c]
    rw [e]
    refine ⟨m0, m1, c0, c1, ?_, ?_, ?_⟩
    · show ((dropO z.odd i).map (·.1)).Nodup
      rw [map_filter_key]
      exact nodup_filter nd
    · exact Nat.le_trans (List.length_filter_le _ _) le
    · intro e he
      exact ok e (List.mem_filter.mp he).1
  · have e : keepM z i own hid = ⟨z.many, z.common, putO z.odd i (own, hid)⟩ := by unfold keepM; simp only [if_neg c]
    rw [e]
    have good : own ≠ z.common ∨ hid = true := by
      by_cases q : own = z.common
      · right
        cases hid
        · exact absurd ⟨q, rfl⟩ c
        · rfl
      · exact .inl q
    by_cases a : (z.odd.any fun e => decide (e.1 = i)) = true
    · have e2 : putO z.odd i (own, hid) = z.odd.map fun e => if e.1 = i then (e.1, (own, hid)) else e := by unfold putO; rw [if_pos a]
      rw [e2]
      refine ⟨m0, m1, c0, c1, ?_, ?_, ?_⟩
      · show ((z.odd.map fun e => if e.1 = i then (e.1, (own, hid)) else e).map (·.1)).Nodup
        rw [map_mapped_key]
        exact nd
      · show (z.odd.map _).length ≤ 60
        rw [List.length_map]
        exact le
      · intro e he
        obtain ⟨e', he', rfl⟩ := List.mem_map.mp he
        have := ok e' he'
        by_cases q : e'.1 = i
        · rw [if_pos q]
          exact ⟨this.1, this.2.1, h0, h1, good⟩
        · rw [if_neg q]
          exact this
    · have e2 : putO z.odd i (own, hid) = z.odd ++ [(i, (own, hid))] := by unfold putO; rw [if_neg a]
      rw [e2]
      rw [look_any] at a
      have a' : look z.odd i = none := by simpa using a
      refine ⟨m0, m1, c0, c1, ?_, ?_, ?_⟩
      · show ((z.odd ++ [(i, (own, hid))]).map (·.1)).Nodup
        rw [List.map_append, List.nodup_append]
        refine ⟨nd, by simp, ?_⟩
        intro k hk b hb e
        simp at hb
        rw [e, hb, look_key, a'] at hk
        cases hk
      · show (z.odd ++ [(i, (own, hid))]).length ≤ 60
        rw [List.length_append]
        have : ¬ 60 ≤ z.odd.length := fun q => nf ⟨c, a', q⟩
        show z.odd.length + 1 ≤ 60
        omega
      · intro e he
        rcases List.mem_append.mp he with he | he
        · exact ok e he
        · simp at he
          rw [he]
          exact ⟨hi.1, hi.2, h0, h1, good⟩
/-- all but the thing at d is as it was -/
def Frm (d : Addr) (H H' : Hp) : Prop := ∀ b o, b ≠ d → H b = some o → H' b = some o
theorem Frm.of {d : Addr} {H H' : Hp} (s : Same H H') : Frm d H H' := fun b o _ h => s b o h
theorem Frm.trans {d : Addr} {H H1 H2 : Hp} (a : Frm d H H1) (b : Frm d H1 H2) : Frm d H H2 := fun c o n h => b c o n (a c o n h)
theorem Frm.upd {d : Addr} {H : Hp} (o : HO) : Frm d H (L2.upd H d o) := fun b v n h => by rw [upd_ne n]; exact h
theorem upd_self {H : Hp} {a : Addr} {o : HO} (h : H a = some o) : upd H a o = H := by
  funext b
  by_cases e : b = a
  · subst e
    rw [upd_same, h]
  · rw [upd_ne e]
theorem dropK_none {kvs : List (Key × V)} {k : Key} (h : valV kvs k = none) : dropK kvs k = kvs := by
  unfold dropK
  rw [List.filter_eq_self]
  intro kv hk
  have h2 : (kvs.any fun kv => decide (kv.1 = k)) = false := by rw [valV_any, h]; rfl
  rw [List.any_eq_false] at h2
  have := h2 kv hk
  simpa using this
theorem sameU {H H' : Hp} (s : Same H H') {x : Addr} (h : H x = none) (o : HO) : Same H (upd H' x o) := fun b v q => by rw [upd_ne (ne_of_none q h)]; exact s b v q
/-- d.pop(k, x): in both cases what is left -/
theorem pop_both {H : Hp} {a : Addr} {kvs : List (Key × V)} {k : Key} {z : V} {Q : V → Hp → Prop} (h : H a = some (.dK kvs)) (q : ∀ v, Q v (upd H a (.dK (dropK kvs k)))) : (∀ v, valV kvs k = some v → Q v (upd H a (.dK (dropK kvs k)))) ∧ (valV kvs k = none → Q z H) := by
  refine ⟨fun v _ => q v, fun e => ?_⟩
  have := q z
  rw [dropK_none e, upd_self h] at this
  exact this
def spKeep (C cF : Addr) : Sp := fun vs H Q E => ∃ (p d : Addr) (z : Sz) (i own : Int) (hid : Bool), vs = [.ref p, .int i, .int own, .bl hid] ∧ SzW C H p d z ∧ inR z i ∧ 1 ≤ own ∧ own ≤ 60 ∧
  (¬ fullM z i own hid → ∀ H', Frm d H H' → SzW C H' p d (keepM z i own hid) → Q .non H') ∧ (fullM z i own hid → E (.ref cF) none H)
def spGive (C cN cS cF : Addr) : Sp := fun vs H Q E => ∃ (p d : Addr) (z : Sz) (i size : Int), vs = [.ref p, .int i, .int size] ∧ SzW C H p d z ∧ Sm i ∧ Sm size ∧
  (inR z i → 1 ≤ size → size ≤ 60 → ¬ fullM z i size (stM z i).2 → ∀ H', Frm d H H' → SzW C H' p d (keepM z i size (stM z i).2) → Q .non H') ∧ (¬ inR z i → E (.ref cN) none H) ∧
  (inR z i → ¬ (1 ≤ size ∧ size ≤ 60) → ∀ H', Same H H' → E (.ref cS) none H') ∧ (inR z i → 1 ≤ size → size ≤ 60 → fullM z i size (stM z i).2 → ∀ H', Same H H' → E (.ref cF) none H')
/-- hide, show, plain -/
def spTo (C cN cF : Addr) (g : Sz → Int → Int × Bool) : Sp := fun vs H Q E => ∃ (p d : Addr) (z : Sz) (i : Int), vs = [.ref p, .int i] ∧ SzW C H p d z ∧ Sm i ∧
  (inR z i → ¬ fullM z i (g z i).1 (g z i).2 → ∀ H', Frm d H H' → SzW C H' p d (keepM z i (g z i).1 (g z i).2) → Q .non H') ∧ (¬ inR z i → E (.ref cN) none H) ∧
  (inR z i → fullM z i (g z i).1 (g z i).2 → ∀ H', Same H H' → E (.ref cF) none H')
abbrev gHide : Sz → Int → Int × Bool := fun z i => ((stM z i).1, true)
abbrev gShow : Sz → Int → Int × Bool := fun z i => ((stM z i).1, false)
abbrev gPlain : Sz → Int → Int × Bool := fun z i => (z.common, (stM z i).2)
theorem st_range {z : Sz} (W : Wf z) (i : Int) : 1 ≤ (stM z i).1 ∧ (stM z i).1 ≤ 60 := by
  have e : stM z i = (look z.odd i).getD (z.common, false) := rfl
  cases h : look z.odd i with
  | none => rw [e, h]; exact ⟨W.c0, W.c1⟩
  | some x => rw [e, h]; exact ⟨(W.ok _ (look_mem h)).2.2.1, (W.ok _ (look_mem h)).2.2.2.1⟩
theorem SzW.frm {C : Addr} {H H' : Hp} {p d e : Addr} {z : Sz} (S : SzW C H p d z) (n1 : p ≠ e) (n2 : d ≠ e) (he : ∀ t xs, H t = some (.tup xs) → t ≠ e) (f : Frm e H H') : SzW C H' p d z := by
  obtain ⟨dx, kvs, h1, h2, h3, W⟩ := S
  exact ⟨dx, kvs, f _ _ n1 h1, f _ _ n2 h2, h3.mono fun t xs q => f _ _ (he t xs q) q, W⟩
/-! ### the law's own dict, changed -/
structure Zw (z : Zs) : Prop where
  nd : (z.own.map (·.1)).Nodup
  ne : ∀ e ∈ z.own, e.2 ≠ z.common
  ng : z.gone.Nodup
def zwithM (z : Zs) (k size : Int) (hid : Bool) : Zs := ⟨z.many, z.common, (z.own.filter fun e => decide (e.1 ≠ k)) ++ (if size ≠ z.common then [(k, size)] else []), (z.gone.filter fun j => decide (j ≠ k)) ++ (if hid = true then [k] else [])⟩
theorem zown_cons (e : Int × Int) (r : List (Int × Int)) (k : Int) : zown (e :: r) k = if e.1 = k then some e.2 else zown r k := by
  by_cases h : e.1 = k
  · simp [zown, h]
  · simp [zown, h]
theorem zown_append (a b : List (Int × Int)) (k : Int) : zown (a ++ b) k = (zown a k).or (zown b k) := by
  induction a with
  | nil => simp [zown]
  | cons e r ih =>
    rw [List.cons_append, zown_cons, zown_cons, ih]
    by_cases h : e.1 = k
    · simp [h]
    · simp [h]
theorem zown_drop (own : List (Int × Int)) (i k : Int) : zown (own.filter fun e => decide (e.1 ≠ i)) k = if k = i then none else zown own k := by
  induction own with
  | nil => simp [zown]
  | cons e r ih =>
    by_cases h : e.1 = i
    · rw [List.filter_cons_of_neg (by simp [h]), ih, zown_cons]
      by_cases hk : k = i
      · simp [hk]
      · have : ¬ e.1 = k := fun z => hk (by omega)
        simp [hk, this]
    · rw [List.filter_cons_of_pos (by simp [h]), zown_cons, zown_cons, ih]
      by_cases hk : e.1 = k
      · have : ¬ k = i := fun z => h (by omega)
        simp [hk, this]
      · simp [hk]
theorem zown_key {own : List (Int × Int)} {i : Int} : i ∈ own.map (·.1) ↔ (zown own i).isSome = true := by
  induction own with
  | nil => simp [zown]
  | cons e r ih =>
    rw [List.map_cons, List.mem_cons, zown_cons, ih]
    by_cases h : e.1 = i
    · simp [h]
    · have : ¬ i = e.1 := fun z => h z.symm
      simp [h, this]
theorem zown_mem {own : List (Int × Int)} {i x : Int} (h : zown own i = some x) : (i, x) ∈ own := by
  induction own with
  | nil => cases h
  | cons e r ih =>
    rw [zown_cons] at h
    by_cases c : e.1 = i
    · rw [if_pos c] at h
      have := Option.some.inj h
      subst this
      rw [← c]
      exact List.mem_cons_self
    · rw [if_neg c] at h
      exact List.mem_cons_of_mem _ (ih h)
theorem zwith_st1 (z : Zs) (k size : Int) (hid : Bool) (j : Int) : (zown (zwithM z k size hid).own j).getD z.common = if j = k then size else (zown z.own j).getD z.common := by
  show (zown ((z.own.filter fun e => decide (e.1 ≠ k)) ++ (if size ≠ z.common then [(k, size)] else [])) j).getD z.common = _
  rw [zown_append, zown_drop]
  by_cases h : j = k
  · subst h
    by_cases c : size = z.common
    · simp [c, zown]
    · simp [c, zown]
  · have h1 : zown (if size ≠ z.common then [(k, size)] else []) j = none := by
      by_cases c : size = z.common
      · simp [c, zown]
      · simp [c, zown]; omega
    rw [h1, Option.or_none, if_neg h, if_neg h]
theorem zwith_st2 (z : Zs) (k size : Int) (hid : Bool) (j : Int) : j ∈ (zwithM z k size hid).gone ↔ if j = k then hid = true else j ∈ z.gone := by
  show j ∈ ((z.gone.filter fun i => decide (i ≠ k)) ++ (if hid = true then [k] else [])) ↔ _
  rw [List.mem_append, List.mem_filter]
  by_cases h : j = k
  · subst h
    cases hid <;> simp
  · cases hid <;> simp [h]
theorem zwith_st (z : Zs) (k size : Int) (hid : Bool) (j : Int) : zst (zwithM z k size hid) j = if j = k then (size, hid) else zst z j := by
  have h1 : (zst (zwithM z k size hid) j).1 = if j = k then size else (zown z.own j).getD z.common := zwith_st1 z k size hid j
  have h2 : (zst (zwithM z k size hid) j).2 = decide (if j = k then hid = true else j ∈ z.gone) := decide_eq_decide.mpr (zwith_st2 z k size hid j)
  refine Prod.ext ?_ ?_
  · rw [h1]
    by_cases h : j = k
    · simp [h]
    · simp [h, zst]
  · rw [h2]
    by_cases h : j = k
    · simp [h]
    · simp [h, zst]
theorem zwith_w {z : Zs} (w : Zw z) (k size : Int) (hid : Bool) : Zw (zwithM z k size hid) := by
  refine ⟨?_, ?_, ?_⟩
  · show (((z.own.filter fun e => decide (e.1 ≠ k)) ++ (if size ≠ z.common then [(k, size)] else [])).map (·.1)).Nodup
    rw [List.map_append, List.nodup_append]
    refine ⟨?_, ?_, ?_⟩
    · have e : (z.own.filter fun e => decide (e.1 ≠ k)).map (·.1) = (z.own.map (·.1)).filter fun j => decide (j ≠ k) := by
        rw [List.filter_map]
        rfl
      rw [e]
      exact nodup_filter w.nd
    · split <;> simp
    · intro a ha b hb e
      obtain ⟨x, hx, rfl⟩ := List.mem_map.mp ha
      have h1 := (List.mem_filter.mp hx).2
      have h1' : x.1 ≠ k := of_decide_eq_true h1
      split at hb
      · simp at hb
        exact h1' (by rw [e, hb])
      · simp at hb
  · intro e he
    rcases List.mem_append.mp he with he | he
    · exact w.ne e (List.mem_filter.mp he).1
    · split at he
      · simp at he
        rw [he]
        assumption
      · simp at he
  · show ((z.gone.filter fun j => decide (j ≠ k)) ++ (if hid = true then [k] else [])).Nodup
    rw [List.nodup_append]
    refine ⟨nodup_filter w.ng, ?_, ?_⟩
    · split <;> simp
    · intro a ha b hb e
      have h1 : a ≠ k := of_decide_eq_true (List.mem_filter.mp ha).2
      split at hb
      · simp at hb
        exact h1 (by rw [e, hb])
      · simp at hb
theorem zkeys_nd {z : Zs} (w : Zw z) : (zkeys z).Nodup := by
  unfold zkeys
  rw [List.nodup_append]
  refine ⟨w.nd, nodup_filter w.ng, ?_⟩
  intro a ha b hb e
  have h1 := (List.mem_filter.mp hb).2
  rw [← e, zown_key.mp ha] at h1
  cases h1
theorem zkeys_mem {z : Zs} (w : Zw z) (k : Int) : k ∈ zkeys z ↔ zst z k ≠ (z.common, false) := by
  unfold zkeys
  rw [List.mem_append, List.mem_filter, zown_key]
  unfold zst
  cases h : zown z.own k with
  | none =>
    by_cases g : k ∈ z.gone
    · simp [g]
    · simp [g]
  | some x =>
    have := w.ne _ (zown_mem h)
    simp
    intro e
    exact absurd e this
theorem keys_mem {s : Sz} (W : Wf s) (k : Int) : k ∈ s.odd.map (·.1) ↔ stM s k ≠ (s.common, false) := by
  rw [look_key]
  unfold stM
  cases h : look s.odd k with
  | none => simp
  | some x =>
    have := (W.ok _ (look_mem h)).2.2.2.2
    simp
    intro e
    rw [e] at this
    rcases this with q | q
    · exact q rfl
    · cases q
theorem rel_mk {s : Sz} {z : Zs} (W : Wf s) (w : Zw z) (h1 : s.many = z.many) (h2 : s.common = z.common) (h3 : ∀ k, stM s k = zst z k) : Rel s z := by
  refine ⟨h1, h2, h3, (List.perm_ext_iff_of_nodup W.nd (zkeys_nd w)).mpr fun k => ?_⟩
  rw [keys_mem W, zkeys_mem w, h3 k, h2]
theorem zok_of {s : Sz} {z : Zs} (W : Wf s) (w : Zw z) (R : Rel s z) : Zok z := by
  have l := R.keys.length_eq
  rw [List.length_map] at l
  have le := W.le
  have lk : (zkeys z).length = z.own.length + (z.gone.filter fun k => !(zown z.own k).isSome).length := by
    unfold zkeys
    rw [List.length_append, List.length_map]
  have sub : ∀ k ∈ z.gone, k ∈ zkeys z := fun k hk => by
    rw [zkeys_mem w]
    unfold zst
    simp [hk]
  have lg : z.gone.length ≤ (zkeys z).length := by
    have p : z.gone.Perm ((zkeys z).filter fun k => decide (k ∈ z.gone)) := by
      refine (List.perm_ext_iff_of_nodup w.ng (nodup_filter (zkeys_nd w))).mpr fun k => ?_
      rw [List.mem_filter]
      exact ⟨fun h => ⟨sub k h, decide_eq_true h⟩, fun h => of_decide_eq_true h.2⟩
    rw [p.length_eq]
    exact List.length_filter_le _ _
  refine ⟨by rw [← R.many]; exact W.m0, by rw [← R.many]; exact W.m1, by rw [← R.common]; exact W.c0, by rw [← R.common]; exact W.c1, by omega, by omega, by omega, fun k hk => ?_⟩
  obtain ⟨e, he, ek⟩ := List.mem_map.mp (R.keys.mem_iff.mpr hk)
  have := W.ok e he
  rw [← R.many, ← ek]
  exact ⟨this.1, this.2.1⟩
/-- the dict and its two, with no word of what is in them -/
structure ZH (H : Hp) (a o g : Addr) (z : Zs) : Prop where
  ha : H a = some (.dK (zL z.many z.common o g))
  ho : H o = some (.dK (ownK z.own))
  hg : H g = some (.dK (goneK z.gone))
  ao : a ≠ o
  ag : a ≠ g
  og : o ≠ g
def spZwith : Sp := fun vs H Q _ => ∃ (a o g : Addr) (z : Zs) (k size : Int) (hid : Bool), vs = [.ref a, .int k, .int size, .bl hid] ∧ ZAt H a o g z ∧
  ∀ (a' o' g' : Addr) (H' : Hp), Same H H' → ZH H' a' o' g' (zwithM z k size hid) → H a' = none → H o' = none → H g' = none → Q (.ref a') H'
def spZset : Sp := fun vs H Q _ => ∃ (a o g : Addr) (z : Zs) (k size : Int), vs = [.ref a, .int k, .int size] ∧ ZAt H a o g z ∧
  ∀ (a' o' g' : Addr) (H' : Hp), Same H H' → ZH H' a' o' g' (zwithM z k size (zst z k).2) → H a' = none → H o' = none → H g' = none → Q (.ref a') H'
def spZhide : Sp := fun vs H Q _ => ∃ (a o g : Addr) (z : Zs) (k : Int) (hid : Bool), vs = [.ref a, .int k, .bl hid] ∧ ZAt H a o g z ∧
  ∀ (a' o' g' : Addr) (H' : Hp), Same H H' → ZH H' a' o' g' (zwithM z k (zst z k).1 hid) → H a' = none → H o' = none → H g' = none → Q (.ref a') H'
theorem putK_drop (kvs : List (Key × V)) (k : Key) (v : V) : putK (dropK kvs k) k v = dropK kvs k ++ [(k, v)] := by
  unfold putK
  rw [if_neg]
  intro c
  rw [List.any_eq_true] at c
  obtain ⟨x, hx, e⟩ := c
  have := (List.mem_filter.mp hx).2
  have e' : x.1 = k := of_decide_eq_true e
  exact (of_decide_eq_true this) e'
theorem drop_ownK (own : List (Int × Int)) (k : Int) : dropK (ownK own) (Sum.inl k) = ownK (own.filter fun e => decide (e.1 ≠ k)) := by
  unfold dropK ownK
  rw [List.filter_map]
  congr 1
  refine List.filter_congr fun e _ => ?_
  show decide (Sum.inl e.1 ≠ (Sum.inl k : Key)) = decide (e.1 ≠ k)
  exact decide_eq_decide.mpr (not_congr inl_eq)
theorem drop_goneK (gone : List Int) (k : Int) : dropK (goneK gone) (Sum.inl k) = goneK (gone.filter fun j => decide (j ≠ k)) := by
  unfold dropK goneK
  rw [List.filter_map]
  congr 1
  refine List.filter_congr fun e _ => ?_
  show decide (Sum.inl e ≠ (Sum.inl k : Key)) = decide (e ≠ k)
  exact decide_eq_decide.mpr (not_congr inl_eq)
theorem put_zL_own (n c : Int) (o g o' : Addr) : putK (zL n c o g) (Sum.inr "own") (.ref o') = zL n c o' g := by
  simp [putK, zL, nz1, nz2, nz3, nz4, nz5, nz6, Ne.symm nz6]
theorem put_zL_gone (n c : Int) (o g g' : Addr) : putK (zL n c o g) (Sum.inr "gone") (.ref g') = zL n c o g' := by
  simp [putK, zL, nz1, nz2, nz3, nz4, nz5, nz6]
/-! ### both side by side -/
def Nls (H H' : Hp) : Prop := ∀ b o, (∀ xs, o ≠ .lst xs) → H b = some o → H' b = some o
theorem Nls.of {H H' : Hp} (s : Same H H') : Nls H H' := fun b o _ h => s b o h
theorem Nls.trans {H H1 H2 : Hp} (x : Nls H H1) (y : Nls H1 H2) : Nls H H2 := fun b o n h => y b o n (x b o n h)
theorem Nls.ext {a : Addr} {H H' : Hp} (d : DrawAt H a) (e : Ext a H H') : Nls H H' := fun b o n h => e.2 b o (by
  obtain ⟨l, ns, i, left, seed, m, h1, _⟩ := d
  exact ne_of h h1 (n _)) h
structure Both (C : Addr) (H : Hp) (p d a o g : Addr) (s : Sz) (z : Zs) : Prop where
  S : SzW C H p d s
  Z : ZAt H a o g z
  R : Rel s z
  w : Zw z
  da : d ≠ a
  dO : d ≠ o
  dg : d ≠ g
theorem SzW.wf {C : Addr} {H : Hp} {p d : Addr} {z : Sz} (S : SzW C H p d z) : Wf z := by
  obtain ⟨_, _, _, _, _, W⟩ := S
  exact W
theorem SzW.nls {C : Addr} {H H' : Hp} {p d : Addr} {z : Sz} (S : SzW C H p d z) (e : Nls H H') : SzW C H' p d z := by
  obtain ⟨dx, kvs, h1, h2, h3, W⟩ := S
  exact ⟨dx, kvs, e _ _ (fun _ q => by cases q) h1, e _ _ (fun _ q => by cases q) h2, h3.mono fun t xs q => e _ _ (fun _ q => by cases q) q, W⟩
theorem ZAt.nls {H H' : Hp} {a o g : Addr} {z : Zs} (h : ZAt H a o g z) (e : Nls H H') : ZAt H' a o g z := ⟨e _ _ (fun _ q => by cases q) h.ha, e _ _ (fun _ q => by cases q) h.ho, e _ _ (fun _ q => by cases q) h.hg, h.ao, h.ag, h.og, h.ok⟩
theorem Both.nls {C : Addr} {H H' : Hp} {p d a o g : Addr} {s : Sz} {z : Zs} (B : Both C H p d a o g s z) (e : Nls H H') : Both C H' p d a o g s z := ⟨B.S.nls e, B.Z.nls e, B.R, B.w, B.da, B.dO, B.dg⟩
theorem ZAt.frm {H H' : Hp} {a o g d : Addr} {z : Zs} (h : ZAt H a o g z) (h1 : d ≠ a) (h2 : d ≠ o) (h3 : d ≠ g) (f : Frm d H H') : ZAt H' a o g z := ⟨f _ _ h1.symm h.ha, f _ _ h2.symm h.ho, f _ _ h3.symm h.hg, h.ao, h.ag, h.og, h.ok⟩
/-- a deed in both -/
theorem Both.step {C : Addr} {H' H'' : Hp} {p d a' o' g' : Addr} {s : Sz} {z : Zs} {i own : Int} {hid : Bool} (w : Zw z) (R : Rel s z) (S' : SzW C H' p d (keepM s i own hid)) (e : Same H' H'') (Z' : ZH H'' a' o' g' (zwithM z i own hid)) (na : H' a' = none) (no : H' o' = none) (ng : H' g' = none) :
    Both C H'' p d a' o' g' (keepM s i own hid) (zwithM z i own hid) := by
  have w' := zwith_w w i own hid
  have W' := S'.wf
  have R' : Rel (keepM s i own hid) (zwithM z i own hid) := rel_mk W' w' R.many R.common fun k => by rw [keep_st, zwith_st, R.st k]
  have hd : ∃ u, H' d = some u := by
    obtain ⟨_, kvs, _, h2, _⟩ := S'
    exact ⟨_, h2⟩
  obtain ⟨u, hd⟩ := hd
  exact ⟨S'.same e, ⟨Z'.ha, Z'.ho, Z'.hg, Z'.ao, Z'.ag, Z'.og, zok_of W' w' R'⟩, R', w', ne_of_none hd na, ne_of_none hd no, ne_of_none hd ng⟩
theorem DrawAt.frm {H H' : Hp} {a d : Addr} {kvs : List (Key × V)} (D : DrawAt H a) (hd : H d = some (.dK kvs)) (f : Frm d H H') : DrawAt H' a := by
  obtain ⟨l, ns, i, left, seed, n, h1, h2, r⟩ := D
  exact ⟨l, ns, i, left, seed, n, f _ _ (ne_of h1 hd (by intro e; unfold drawO at e; cases e)) h1, f _ _ (ne_of h2 hd (by intro e; cases e)) h2, r⟩
end Gs

set_option Elab.async false
set_option linter.all false
set_option maxRecDepth 100000
set_option maxHeartbeats 4000000
namespace Gs
open PySem L2
/-! ### sums ahead of a thing -/
theorem sz_plain {z : Sz} {i : Int} (h : ¬ i ∈ z.odd.map (·.1)) : szM z i = z.common := by
  rw [look_key] at h
  have e : look z.odd i = none := by simpa using h
  unfold szM stM
  rw [e]
  rfl
theorem sum_step (f : Int → Int) (i : Int) : ∀ l : List Int, l.Nodup → ((l.filter fun k => decide (k < i + 1)).map f).sum = ((l.filter fun k => decide (k < i)).map f).sum + if i ∈ l then f i else 0
  | [], _ => by simp
  | k :: r, nd => by
    rw [List.nodup_cons] at nd
    have ih := sum_step f i r nd.2
    by_cases h1 : k < i
    · have h2 : k < i + 1 := by omega
      have h3 : ¬ i = k := by omega
      rw [List.filter_cons_of_pos (by simpa using h2), List.filter_cons_of_pos (by simpa using h1), List.map_cons, List.map_cons, List.sum_cons, List.sum_cons, ih]
      simp only [List.mem_cons, h3, false_or]
      omega
    · by_cases h3 : k = i
      · subst h3
        have h2 : k < k + 1 := by omega
        rw [List.filter_cons_of_pos (by simpa using h2), List.filter_cons_of_neg (by simp), List.map_cons, List.sum_cons, ih]
        simp only [nd.1, if_false, List.mem_cons, true_or, if_true]
        omega
      · have h2 : ¬ k < i + 1 := by omega
        have h4 : ¬ i = k := fun z => h3 z.symm
        rw [List.filter_cons_of_neg (by simpa using h2), List.filter_cons_of_neg (by simpa using h1), ih]
        simp only [List.mem_cons, h4, false_or]
theorem ah_succ {z : Sz} (W : Wf z) (i : Int) : ahM z (i + 1) = ahM z i + szM z i := by
  unfold ahM
  rw [sum_step _ i _ W.nd]
  by_cases h : i ∈ z.odd.map (·.1)
  · rw [if_pos h, Int.add_mul]
    omega
  · rw [if_neg h, sz_plain h, Int.add_mul]
    omega
theorem ah_gap {z : Sz} {a b : Int} (h : ∀ k ∈ z.odd.map (·.1), k < a ∨ b ≤ k) (hab : a ≤ b) : ahM z b = ahM z a + (b - a) * z.common := by
  unfold ahM
  have e : ((z.odd.map (·.1)).filter fun k => decide (k < b)) = (z.odd.map (·.1)).filter fun k => decide (k < a) := by
    refine List.filter_congr fun k hk => ?_
    refine decide_eq_decide.mpr ?_
    have := h k hk
    omega
  rw [e, Int.sub_mul]
  omega
theorem ah_zero {z : Sz} (W : Wf z) : ahM z 0 = 0 := by
  unfold ahM
  have e : ((z.odd.map (·.1)).filter fun k => decide (k < 0)) = [] := by
    rw [List.filter_eq_nil_iff]
    intro k hk
    obtain ⟨e, he, ek⟩ := List.mem_map.mp hk
    have := (W.ok e he).1
    simp
    omega
  rw [e]
  simp
theorem sz_range {z : Sz} (W : Wf z) (i : Int) : 0 ≤ szM z i ∧ szM z i ≤ 60 := by
  have := st_range W i
  unfold szM
  split
  · omega
  · omega
theorem ah_nat {z : Sz} (W : Wf z) : ∀ n : Nat, 0 ≤ ahM z (n : Int) ∧ ahM z (n : Int) ≤ 60 * n
  | 0 => by
    have := ah_zero W
    show 0 ≤ ahM z 0 ∧ ahM z 0 ≤ _
    rw [this]
    omega
  | n + 1 => by
    have ih := ah_nat W n
    have s := ah_succ W (n : Int)
    have r := sz_range W (n : Int)
    have e : ((n + 1 : Nat) : Int) = (n : Int) + 1 := by omega
    rw [e, s]
    omega
theorem ah_range {z : Sz} (W : Wf z) {i : Int} (h : 0 ≤ i) : 0 ≤ ahM z i ∧ ahM z i ≤ 60 * i := by
  have := ah_nat W i.toNat
  have e : ((i.toNat : Nat) : Int) = i := by omega
  rw [e] at this
  exact this
theorem ah_mono_nat {z : Sz} (W : Wf z) (a : Int) : ∀ n : Nat, ahM z a ≤ ahM z (a + n)
  | 0 => by
    have e : a + ((0 : Nat) : Int) = a := by omega
    rw [e]
    exact Int.le_refl _
  | n + 1 => by
    have ih := ah_mono_nat W a n
    have s := ah_succ W (a + n)
    have r := sz_range W (a + n)
    have e : a + ((n + 1 : Nat) : Int) = a + n + 1 := by omega
    rw [e, s]
    omega
theorem ah_mono {z : Sz} (W : Wf z) {a b : Int} (h : a ≤ b) : ahM z a ≤ ahM z b := by
  have := ah_mono_nat W a (b - a).toNat
  have e : a + ((b - a).toNat : Int) = b := by omega
  rw [e] at this
  exact this
/-- only one thing lies over a point -/
theorem at_one {z : Sz} (W : Wf z) {i j pt : Int} (h1 : ahM z i ≤ pt) (h2 : pt < ahM z i + szM z i) (h3 : ahM z j ≤ pt) (h4 : pt < ahM z j + szM z j) : i = j := by
  have s1 := ah_succ W i
  have s2 := ah_succ W j
  rcases Int.lt_trichotomy i j with h | h | h
  · have := ah_mono W (show i + 1 ≤ j by omega)
    omega
  · exact h
  · have := ah_mono W (show j + 1 ≤ i by omega)
    omega
def spAt (C cP : Addr) : Sp := fun vs H Q E => ∃ (p d : Addr) (z : Sz) (pt : Int), vs = [.ref p, .int pt] ∧ SzW C H p d z ∧ Sm pt ∧
  (0 ≤ pt → pt < ahM z z.many → ∀ (k : Int) (t : Addr) (H' : Hp), inR z k → ahM z k ≤ pt → pt < ahM z k + szM z k → Same H H' → H' t = some (.tup [.int k, .int (pt - ahM z k)]) → Q (.ref t) H') ∧
  (¬ (0 ≤ pt ∧ pt < ahM z z.many) → ∀ H', Same H H' → E (.ref cP) none H')
theorem lt_of_pw {ys : List Int} (pw : ys.Pairwise (· ≤ ·)) (nd : ys.Nodup) : ys.Pairwise (· < ·) := by
  refine List.Pairwise.imp₂ (fun a b h1 h2 => ?_) pw nd
  omega
theorem drop_at {ys : List Int} {j : Nat} {x : Int} (h : ys[j]? = some x) : ys.drop j = x :: ys.drop (j + 1) := by
  have hj : j < ys.length := by
    rw [List.getElem?_eq_some_iff] at h
    exact h.1
  rw [List.drop_eq_getElem_cons hj]
  rw [List.getElem?_eq_getElem hj] at h
  rw [Option.some.inj h]
end Gs

set_option Elab.async false
set_option linter.all false
set_option maxRecDepth 100000
set_option maxHeartbeats 4000000
namespace Gs
open PySem L2
/-! ### rows of pairs -/
abbrev Pr := Int × Int
def prD (e : Pr) : PyData := .tuple [.int e.1, .int e.2]
def DpP (H : Hp) (xs : List V) (es : List Pr) : Prop := Paired (fun (v : V) (e : Pr) => ∃ t, v = .ref t ∧ H t = some (.tup [.int e.1, .int e.2])) xs es
theorem DpP.mono {H H' : Hp} (s : TupSame H H') : ∀ {xs : List V} {cs : List Pr}, DpP H xs cs → DpP H' xs cs
  | _, _, .nil => .nil
  | _, _, .cons ⟨t, e, h⟩ r => .cons ⟨t, e, s _ _ h⟩ (DpP.mono s r)
theorem DpP.append {H : Hp} : ∀ {xs ys : List V} {cs ds : List Pr}, DpP H xs cs → DpP H ys ds → DpP H (xs ++ ys) (cs ++ ds)
  | _, _, _, _, .nil, s => s
  | _, _, _, _, .cons a r, s => .cons a (DpP.append r s)
theorem DpP.len {H : Hp} : ∀ {xs : List V} {cs : List Pr}, DpP H xs cs → xs.length = cs.length
  | _, _, .nil => rfl
  | _, _, .cons _ r => by simp [DpP.len r]
theorem DpP.dp {K : PySem.W.Frag} {H : Hp} : ∀ {xs : List V} {cs : List Pr}, DpP H xs cs → DpAll K H xs (cs.map prD)
  | _, _, .nil => .nil
  | _, _, .cons ⟨t, e, h⟩ r => by
    subst e
    exact .cons (.tup (SqT.of h) (.cons (.int _) (.cons (.int _) .nil))) (DpP.dp r)
theorem pr_mxl : ∀ es : List Pr, mxlAll (es.map prD) ≤ 3
  | [] => by simp [mxlAll]
  | e :: r => by
    have := pr_mxl r
    simp only [List.map_cons, mxlAll, prD, mxl, List.length_cons, List.length_nil]
    omega
theorem pr_depth : ∀ es : List Pr, PyData.depthAll (es.map prD) ≤ 1
  | [] => by simp [PyData.depthAll]
  | e :: r => by
    have := pr_depth r
    simp only [List.map_cons, PyData.depthAll, prD, PyData.depth]
    omega
/-- all points in their order -/
def dueL (z : Sz) : Nat → List Pr
  | 0 => []
  | m + 1 => dueL z m ++ (List.range (szM z m).toNat).map fun (w : Nat) => ((m : Int), (w : Int))
theorem due_len {z : Sz} (W : Wf z) : ∀ m : Nat, ((dueL z m).length : Int) = ahM z m
  | 0 => by
    show (0 : Int) = ahM z 0
    rw [ah_zero W]
  | m + 1 => by
    have ih := due_len W m
    have s := ah_succ W (m : Int)
    have r := sz_range W (m : Int)
    have e : ((m + 1 : Nat) : Int) = (m : Int) + 1 := by omega
    rw [e, s]
    unfold dueL
    rw [List.length_append, List.length_map, List.length_range]
    omega
theorem due_at {z : Sz} (W : Wf z) {k w : Int} (k0 : 0 ≤ k) (w0 : 0 ≤ w) (w1 : w < szM z k) : ∀ m : Nat, k < m → (dueL z m)[(ahM z k + w).toNat]? = some (k, w)
  | 0, h => by omega
  | m + 1, h => by
    have l := due_len W m
    have a0 := (ah_range W k0).1
    unfold dueL
    by_cases hk : k < m
    · have mo := ah_mono W (show k + 1 ≤ (m : Int) by omega)
      have s := ah_succ W k
      rw [List.getElem?_append_left (by omega)]
      exact due_at W k0 w0 w1 m hk
    · have e : k = (m : Int) := by omega
      rw [List.getElem?_append_right (by rw [← e] at l; omega)]
      have e2 : (ahM z k + w).toNat - (dueL z m).length = w.toNat := by rw [← e] at l; omega
      have hw : w.toNat < (szM z (m : Int)).toNat := by rw [← e]; omega
      rw [e2, List.getElem?_map, List.getElem?_range hw]
      show some ((m : Int), (w.toNat : Int)) = some (k, w)
      rw [e]
      congr 2
      omega
theorem ints2 {a b r : Int} (h0 : 0 ≤ r) (h1 : r < 2) : ∃ n, (n = a ∨ n = b) ∧ atI [V.int a, .int b] r = some (.int n) := by
  have : r = 0 ∨ r = 1 := by omega
  rcases this with rfl | rfl
  · exact ⟨a, .inl rfl, atI_nat (j := 0) rfl⟩
  · exact ⟨b, .inr rfl, atI_nat (j := 1) rfl⟩
theorem rel0 (n c : Int) : Rel ⟨n, c, []⟩ ⟨n, c, [], []⟩ := ⟨rfl, rfl, fun k => rfl, .nil⟩
theorem zw0 (n c : Int) : Zw ⟨n, c, [], []⟩ := ⟨List.nodup_nil, fun e he => (nomatch he), List.nodup_nil⟩
theorem szw_ins {C : Addr} {H : Hp} {p d : Addr} {z : Sz} (S : SzW C H p d z) : ∃ dx, H p = some (.ins C dx (fldZ z.many z.common d)) := by
  obtain ⟨dx, kvs, h1, _⟩ := S
  exact ⟨dx, h1⟩
theorem szw_dict {C : Addr} {H : Hp} {p d : Addr} {z : Sz} (S : SzW C H p d z) : ∃ kvs, H d = some (.dK kvs) := by
  obtain ⟨dx, kvs, h1, h2, _⟩ := S
  exact ⟨kvs, h2⟩
def spLaw (K : PySem.W.Frag) : Sp := fun vs H Q _ => ∃ (a : Addr) (ns : List Int), vs = [.ref a] ∧ SqL K H a (ns.map V.int) ∧ ns.length ≤ 63 ∧ ∀ H', Q (.bl true) H'
end Gs

set_option Elab.async false
set_option linter.all false
set_option maxRecDepth 100000
set_option maxHeartbeats 4000000
namespace Gs
open PySem PySem.Spec PyProof.Rows L2
/-! ### except (A, B) as n -/
def wAsT (K : PySem.W.Frag) (c1 c2 : Value) (i : Nat) (ts : Addr → Value → Option Addr → TS) (Wo : WX) (D : Ends) : WX := fun cls d σ H =>
  ∃ yes, PySem.W.exmAny K cls [c1, c2] = some yes ∧ (yes = false → Wo cls d σ H) ∧ (yes = true → ∀ a, H a = none → ts a cls d { nx := fun τ J => D.nx (τ.set i none) J, rt := D.rt, bk := fun τ J => D.bk (τ.set i none) J, ct := fun τ J => D.ct (τ.set i none) J } (σ.set i (some (.ref a))) H)
theorem fly_push {B h : Heap} {l : List Env} {e : Addr} {Zp : Obj → Prop} (x : HandSPX.FlyingZ B l e Zp h) (o : Obj) : HandSPX.FlyingZ B l e Zp (h.push o) := by
  have kp : ∀ q u, h.get? q = some u → (h.push o).get? q = some u := fun _ _ z => Heap.get?_push_of_some _ z
  obtain ⟨y1, y2, y3, oe, vs, t, ot, us, z1, z2, z3, z4, z5, z6, z7, z8, z9⟩ := x
  exact ⟨fun q u r => kp q u (y1 q u r), y2, y3.of_keeps (fun b u r _ => ⟨u, kp b u r, rfl⟩), oe, vs, t, ot, us, kp _ _ z1, z2, z3, z4, z5, z6, kp _ _ z7, z8, z9⟩
section
variable {X : Cx} {x1 x2 n : Str} {c1 c2 : Value} {i kk : Nat} {body suite : List Stmt} {b₀ : Stmt} {p1 p2 tp pos pos' : Pos} {tb : WX → TS} {ts : Addr → Value → Option Addr → TS} {Wo : WX}
theorem ld_names {c : Value} {x : Str} {np : Pos} {pins : List (Addr × Obj)} {s : Shared} {σ : L2.St} {H : Hp} {Q E : Value → Shared → Prop} (hc : Names X x c) (I : Inv X pins σ H s) (q : Q c s) : wpAny (model X.prog X.w) X.A (eval (.Name x np) X.env) Q E s := by
  rcases hc with ⟨g, db, m | ⟨m, v, nn⟩⟩
  · exact ld_glob I g m q db
  · exact ld_blt I g m v q nn db
theorem ps_try_asT (hs : X.stack = X.env :: X.outer) (hf : X.env.frame = some X.env.locals) (hN : X.N.Nodup) (hi : X.N[i]? = some n) (hln : X.env.kindOf n = some .local) (n1 : Names X x1 c1) (n2 : Names X x2 c2) (tk : Takes X Wo)
    (hb : ∀ (W : WX) (pn : List (Addr × Obj)) (xe : Value → Shared → Prop), Takes (X.tr pn xe) W → PassesOwn (model X.prog X.w) X.A X.env xe → PSs (X.tr pn xe) body (tb W))
    (hsu : ∀ (a : Addr) (oe : Obj) (cls : Value) (d : Option Addr) (pn : List (Addr × Obj)), Zc cls d oe → (∃ vs, oe.data = .fields vs) → PSs (X.suite a ((a, oe) :: pn)) (b₀ :: suite) (ts a cls d)) :
    PS X (.Try body [.ExceptHandler (some (.Tuple [.Name x1 p1, .Name x2 p2] kk tp)) (some n) (b₀ :: suite) pos'] [] [] pos) (fun D σ H => tb (wAsT X.K c1 c2 i ts Wo D) D σ H) := by
  constructor
  intro pins s σ H D I h
  have ok := I.ok; have hfr : X.A.frames = some (X.env :: X.outer) := by rw [ok.frames, hs]
  have bind_at : Loc X.env.scope n := .inl hln
  apply wpAny_Try_except
  have run := (hb (wAsT X.K c1 c2 i ts Wo D) (X.pn ++ pins) (fun e u₁ => wpAny (model X.prog X.w) X.A (noteFrame e X.env) (fun _ u₂ => wpAny (model X.prog X.w) X.A (setFlight e none) (fun _ u₃ => wpAny (model X.prog X.w) X.A (handleBy e X.env [.ExceptHandler (some (.Tuple [.Name x1 p1, .Name x2 p2] kk tp)) (some n) (b₀ :: suite) pos']) (SP X pins D) X.xe u₃) X.xe u₂) X.xe u₁) (fun u s' xx => ?hit) PassesOwn.looking).run [] s σ H D (I.toTry _) h
  case hit =>
    obtain ⟨a, B, sI, pins', σ', H', cls, d, rfl, J', nb, up, sky, na, os, ag, yes, hyes, out, inn⟩ := xx
    have J : Inv X pins σ' H' sI := J'.ofTry ok
    rw [hs] at sky
    show wpAny (model X.prog X.w) X.A (noteFrame (.ref a) X.env) _ _ _
    refine Sky.land Zc.steady hfr hf sky fun hA flA upA => ?_
    have JA : Inv X pins σ' H' { s' with heap := hA } := J.landed nb flA.1 (up.trans upA) os ag
    obtain ⟨oA, vA, gA, zA, dA⟩ := flA.there
    have off : a ∉ frs (X.env :: X.outer) := fun hm => by
      obtain ⟨_, o2, g2, no⟩ := flA.2.2.1.mem hm
      rw [gA] at g2; cases g2
      exact no _ dA
    have offL : a ≠ X.env.locals := fun z => off (List.mem_filterMap.mpr ⟨X.env, List.mem_cons_self, by rw [hf, z]⟩)
    have offF : a ∉ X.fs := fun hm => by
      obtain ⟨v, hv, q⟩ := List.mem_filterMap.mp hm
      exact off (List.mem_filterMap.mpr ⟨v, List.mem_cons_of_mem _ hv, q⟩)
    have SA := JA.suite gA dA na offL offF
    refine wpAny_handleBy_cons (codeAny_handlers_test ?_) (by intro q; cases q)
    refine wpAny_Tuple (wpAny_items_cons (ld_names (X := X.suite a ((a, oA) :: (X.pn ++ pins))) n1 SA (wpAny_items_cons (ld_names (X := X.suite a ((a, oA) :: (X.pn ++ pins))) n2 SA (wpAny_items_nil ⟨show 2 ≤ sizeLine by decide, ?_⟩)))))
    -- the tuple of the two lies behind all that was there
    obtain ⟨hP, ehP⟩ : ∃ hP, hP = hA.push { cls := .type "tuple", data := .seq [c1, c2].toArray } := ⟨_, rfl⟩
    have flP : HandSPX.FlyingZ B (X.env :: X.outer) a (Zc cls d) hP := by rw [ehP]; exact fly_push flA _
    have upP : hA.UpToSlots hP := fun b u r _ => ⟨u.slots, by rw [ehP]; exact Heap.get?_push_of_some _ r⟩
    have JP : Inv X pins σ' H' { s' with heap := hP } := J.landed nb flP.1 ((up.trans upA).trans upP) os ag
    obtain ⟨oP, vP, gP, zP, dP⟩ := flP.there
    have kind : PySem.W.Looks (model X.prog X.w) hP (typeOf (.ref a)) cls := fun A Q E s keep q => wpAny_typeOf_ref (keep _ _ gP) (by rw [zP.1]; exact q)
    have tupAt : hP.get? hA.objs.size = some { cls := .type "tuple", data := .seq [c1, c2].toArray } := by rw [ehP]; exact Heap.get?_push_size hA rfl
    have says := PySem.W.exm_tup2 (M := model X.prog X.w) JP.kIn kind tupAt hyes
    show wpAny _ _ (excMatches (.ref a) (.ref hA.objs.size)) _ _ { s' with heap := hA.push _ }
    rw [← ehP]
    refine says.here ?_
    cases yes
    · show wpAny _ X.A (handleBy (.ref a) X.env []) _ _ _
      refine wpAny_handleBy_nil ?_
      obtain ⟨_, _, _, oQ, vQ, t, ot, us, gQ, zQ, dQ, f1, _⟩ := id flP
      unfold PySem.passOn
      refine wpAny_bind (wpAny_field gQ dQ f1 ?_)
      rw [if_neg (show ¬ ((Value.ref t == Value.none) = true) from by simp)]
      have fin : wpAny (model X.prog X.w) X.A (setFlight (.ref a) X.env.frame) (fun _ s4 => wpAny (model X.prog X.w) X.A (throw (.ref a) : Sem Flow) (SP X pins D) X.xe s4) X.xe { s' with heap := hP } := by
        rw [hf]
        exact HandSPX.setFlight_upZ flP fun h4 hh4 up4 => wpAny_throw (tk _ _ ⟨a, B, sI, pins, σ', H', cls, d, rfl, J, nb, ((up.trans upA).trans upP).trans up4, .inr (.inr (by rw [hs]; exact hh4)), na, os, ag, out rfl⟩)
      first | exact wpAny_bind (wpAny_pure (wpAny_bind fin)) | exact wpAny_bind fin
    · refine codeAny_handlers_suite_as (HandSPX.lands_againZ flP fun hB flB upB => ?_)
      have JB : Inv X pins σ' H' { s' with heap := hB } := J.landed nb flB.1 (((up.trans upA).trans upP).trans upB) os ag
      obtain ⟨oB, vB, gB, zB, dB⟩ := flB.there
      refine store_ok (X := X.suite a ((a, oB) :: (X.pn ++ pins))) (v := .ref a) (JB.suite gB dB na offL offF) hN hi bind_at rfl (fun s5 S5 => ?_) (.inr hln)
      have unb : ∀ {s6 : Shared} {τ : L2.St} {J6 : Hp} {Q : Shared → Prop}, Inv (X.suite a ((a, oB) :: (X.pn ++ pins))) [] τ J6 s6 → (∀ s7, Inv X pins (τ.set i none) J6 s7 → Q s7) → wpAny (model X.prog X.w) X.A (do bindName X.env n .none; unbindBehindTheSuite X.env n pos') (fun _ s7 => Q s7) X.xe s6 := fun S6 hq => gone_ok (S6.unsuite ok) hN hi hln hq
      refine wpAny_mono ((hsu a oB cls d (X.pn ++ pins) zB ⟨_, dB⟩).run [] s5 _ H' _ S5 (inn rfl a na)) (fun f s6 e6 => ?_) (fun _ _ z => False.elim z)
      cases f with
      | ret u => obtain ⟨v6, τ, J6, S6, r6, q6⟩ := e6; exact unb S6 fun s7 J7 => ⟨_, _, _, J7, r6, q6⟩
      | next => obtain ⟨τ, J6, S6, q6⟩ := e6; exact unb S6 fun s7 J7 => ⟨_, _, J7, q6⟩
      | brk => obtain ⟨τ, J6, S6, q6⟩ := e6; exact unb S6 fun s7 J7 => ⟨_, _, J7, q6⟩
      | cont => obtain ⟨τ, J6, S6, q6⟩ := e6; exact unb S6 fun s7 J7 => ⟨_, _, J7, q6⟩
  refine wpAny_mono run (fun f s1 e1 => ?_) (fun e s1 he => he)
  cases f with
  | ret u => obtain ⟨v, τ, J1, I1, r, q⟩ := e1; exact ⟨v, τ, J1, I1.ofTry ok, r, q⟩
  | next => obtain ⟨τ, J1, I1, q⟩ := e1; exact wpAny_execs_nil ⟨τ, J1, I1.ofTry ok, q⟩
  | brk => obtain ⟨τ, J1, I1, q⟩ := e1; exact ⟨τ, J1, I1.ofTry ok, q⟩
  | cont => obtain ⟨τ, J1, I1, q⟩ := e1; exact ⟨τ, J1, I1.ofTry ok, q⟩
end
theorem exm_any2 {K : PySem.W.Frag} {cls c1 c2 : Value} {b1 b2 : Bool} (h1 : PySem.W.exmOne K cls c1 = some b1) (h2 : PySem.W.exmOne K cls c2 = some b2) : PySem.W.exmAny K cls [c1, c2] = some (b1 || b2) := by
  unfold PySem.W.exmAny
  rw [h1]
  unfold PySem.W.exmAny
  rw [h2]
  unfold PySem.W.exmAny
  simp
theorem same_noneP {P : Program} {w : World} {K : PySem.W.Frag} {mg : Str → Option Value} {base : Heap} {f : Addr} {fd : FuncData} {ps : List Str} : FnOk P w K mg base CX0 0 f fd ps (spSame K 0) := by
  have no : ∀ vs H Q E, ¬ spSame K 0 vs H Q E := fun vs H Q E h => by
    obtain ⟨x, y, d, _, _, _, h1, _⟩ := h
    omega
  exact ⟨fun vs H Q E h => absurd h (no vs H Q E), fun A outer s H args us vs Q E _ _ _ _ h => absurd h (no vs H Q E)⟩
theorem mt_indexK {X : Cx} {K : PySem.W.Frag} (h : X.K = K) : L2.MtR X "list.index" (rIndex K) := by subst h; exact mt_index
theorem pe_bm1K {X : Cx} {K : PySem.W.Frag} {o e : Expr} {to : TE} {ta : TA} {name : Str} {apos cpos : Pos} {T id : String} {r : V → List V → Hp → VK → Prop} (hK : X.K = K) (pa : PlainAttrs T) (slot : Slot T name id) (hty : typeOf (.builtin id) = pure (.type "method_descriptor")) (hm : L2.MtR X id r) (ho : PE X o to) (ha : PA X [e] ta)
    (h1 : attributeBase o name X.env (eval o X.env) = eval o X.env := by rfl)
    (h2 : ((backTo cpos (starEach [e] X.env)).all (fun x => !x.1) && (backToKw cpos (keywordEach [] X.env)).all (fun x => x.1.isSome) && decide (([e] : List Expr).length + ([] : List Keyword).length + (if ([] : List Keyword).isEmpty then 0 else 1) < 30)) = true := by rfl)
    (h3 : (apos.endLine == cpos.line) = true := by rfl) (h4 : starEach [e] X.env = (false, eval e X.env) :: starEach [] X.env := by rfl) (h5 : (backTo cpos (starEach [] X.env)).any (·.1) = false := by rfl) : PE X (.Call (.Attribute o name apos) [e] [] cpos) (tBM K T r to ta) := by
  subst hK
  exact pe_bm pa slot hty hm ho ha h1 h2 h3 h4 h5
def spFarB : Sp := fun vs H Q _ => ∃ a : Addr, vs = [.ref a] ∧ DrawAt H a ∧ ∀ (i : Int) (H' : Hp), (-(10 ^ 40) ≤ i ∧ i ≤ 10 ^ 40) → (i < -1000000 ∨ 1000000 < i) → Gs.Ext a H H' → Q (.int i) H'
theorem Sm.of2 {i : Int} (h0 : -(10 ^ 45) ≤ i) (h1 : i ≤ 10 ^ 45) : Sm i := by
  have : i.natAbs ≤ 10 ^ 45 := by omega
  exact Nat.lt_of_le_of_lt this (by decide)
end Gs

set_option Elab.async false
set_option linter.all false
set_option maxRecDepth 100000
set_option maxHeartbeats 4000000
namespace Gs
open PySem L2
/-! ### a def called with keywords, and one with a default left out -/
def Kn (P : Program) (w : World) (K : PySem.W.Frag) (mg : Str → Option Value) (base : Heap) (CX : CXT) (k : Nat) (x : Str) (ps : List Str) (n : Nat) (ks : List Str) (gV : List V → List V → List V) (sp : Sp) : Prop :=
  ∃ (f : Addr) (fd : FuncData) (g : List Value → List Value → List Value), FnOk P w K mg base CX k f fd ps sp ∧ mg x = some (.ref f) ∧ PySem.W.keepIn K (.ref f) = true ∧ KBn K fd ps n ks g gV
def Dd (P : Program) (w : World) (K : PySem.W.Frag) (mg : Str → Option Value) (base : Heap) (CX : CXT) (k : Nat) (x : Str) (ps : List Str) (dv : List V) (sp : Sp) : Prop :=
  ∃ (f : Addr) (fd : FuncData) (ds : List Value), FnOk P w K mg base CX k f fd ps sp ∧ mg x = some (.ref f) ∧ PySem.W.keepIn K (.ref f) = true ∧ Vals dv ds ∧ Binds K fd ps ds
def tCallNS (n m : Nat) (sp : Sp) (gV : List V → List V → List V) (E : St → XK) (t tk : TA) : TE := fun σ H Q => t σ H fun vs H1 => tk σ H1 fun zs H2 => vs.length = n ∧ zs.length = m ∧ sp (gV vs zs) H2 Q (E σ)
/-- how a call is written: keywords ks behind plain arguments, of which there is one at least -/
structure Written (X : Cx) (e : Expr) (es : List Expr) (kws : List Keyword) (pos : Pos) (ks : List Str) : Prop where
  named : (backToKw pos (keywordEach kws X.env)).all (·.1.isSome) = true
  names : (backToKw pos (keywordEach kws X.env)).filterMap (·.1) = ks
  star : starEach (e :: es) X.env = (false, eval e X.env) :: starEach es X.env
  bare : ((backTo pos (starEach (e :: es) X.env)).any (·.1) || (backToKw pos (keywordEach kws X.env)).any (·.1.isNone)) = false
section
variable {X : Cx} {CX : CXT} {k n : Nat} {ps ks : List Str} {sp : Sp} {x : Str} {p pos : Pos} {e : Expr} {es : List Expr} {kws : List Keyword} {t tk : TA} {gV : List V → List V → List V} {dv : List V}
theorem pe_callDd {E : XK} (D : Dd X.prog X.w X.K X.mg X.base CX k x ps dv sp) (hr : Room k X.A) (hg : Gl X x) (hx : Passes CX X E)
    (ha : PA X (e :: es) t) (hdb : (x == ("__debug__" : Str)) = false := by decide) (he : starEach (e :: es) X.env = (false, eval e X.env) :: starEach es X.env := by rfl) (hpl : (backTo pos (starEach es X.env)).any (·.1) = false := by rfl) :
    PE X (.Call (.Name x p) (e :: es) [] pos) (tCall sp dv E t) := by
  obtain ⟨f, fd, ds, F, m, kp, v, b⟩ := D
  exact pe_call F hr hg m kp b v hx ha hdb he hpl
theorem pe_callKD {E : XK} (D : Kn X.prog X.w X.K X.mg X.base CX k x ps n ks gV sp) (hr : Room k X.A) (hg : Gl X x) (hx : Passes CX X E) (ha : PA X (e :: es) t) (hkw : PK X kws tk)
    (nd : (x == ("__debug__" : Str)) = false := by decide) (w : Written X e es kws pos ks := by exact ⟨by rfl, by rfl, by rfl, by rfl⟩) : PE X (.Call (.Name x p) (e :: es) kws pos) (tCallN n ks.length sp gV E t tk) :=
  let ⟨_, _, _, F, m, kp, b⟩ := D
  pe_callN F hr hg m kp b hx ha hkw w.named w.names nd w.star w.bare
theorem pe_callKSD {E : St → XK} (D : Kn X.prog X.w X.K X.mg X.base CX k x ps n ks gV sp) (hr : Room k X.A) (hg : Gl X x) (hx : ∀ σ, PassesAt CX X σ (E σ)) (ha : PA X (e :: es) t) (hkw : PK X kws tk)
    (hdb : (x == ("__debug__" : Str)) = false := by decide) (w : Written X e es kws pos ks := by exact ⟨by rfl, by rfl, by rfl, by rfl⟩) : PE X (.Call (.Name x p) (e :: es) kws pos) (tCallNS n ks.length sp gV E t tk) := by
  obtain ⟨hall, hks, he, hpl⟩ := w
  obtain ⟨f, fd, g, F, m, kp, hb⟩ := D
  refine ⟨fun pins s σ H Q I h => ?_⟩
  refine wpAny_Call_Name_kw (ld_glob I hg m ?_ hdb)
  refine PySem.W.callWith_KW (h₀ := X.base) I.ok.mod.kin kp hall (thn (ha.run pos pins s σ H _ I h) fun us s1 ⟨vs, H1, I1, r, q⟩ => ?_) hpl he
  refine thn (hkw.run pos pins s1 σ H1 _ I1 q) fun ws s2 ⟨zs, H2, I2, rz, l1, l2, q2⟩ => ⟨I2.kIn, ?_⟩
  rw [hks]
  have r2 := hb.rel r rz
  refine wpAny_call (codeAny_mono (F.run X.A X.stack s2 H2 ⟨us, ks.zip ws⟩ (g us ws) (gV vs zs) Q (E σ) hr I2.env0 (hb.to s2 us ws I2.kIn (r.length.symm.trans l1) (rz.length.symm.trans l2)) r2 q2) fun r s' hq => ?_)
  cases r with
  | error e => exact hx σ pins H2 s2 e s' I2 hq
  | ok fl =>
    cases fl with
    | ret u => exact I2.after hq
    | next => exact False.elim hq
    | brk => exact False.elim hq
    | cont => exact False.elim hq
end
/-! ### texts -/
theorem split_len (x y : Str) : (Txt.split x y).length ≤ x.length + 2 := by
  unfold Txt.split
  split
  · simp
  split
  · simp
  · unfold Builtin.Str.partsBetween
    simp only [List.length_map, List.length_zip, List.length_cons, List.length_append, List.length_nil]
    have := StrLaws.occ_length_le x y 0 x.length (x.length + 1)
    omega
theorem split_mem {x y z : Str} (h : z ∈ Txt.split x y) : z.length ≤ x.length := by
  unfold Txt.split at h
  split at h
  · rw [List.mem_singleton.mp h]; exact Nat.le_refl _
  split at h
  · rw [List.mem_singleton.mp h]; exact Nat.le_refl _
  · unfold Builtin.Str.partsBetween at h
    obtain ⟨⟨i, j⟩, _, e⟩ := List.mem_map.mp h
    rw [← e]
    show (x.cps.extract i j).size ≤ x.cps.size
    rw [Array.size_extract]
    omega
def wordsM (t : Str) : List Str := (Txt.split t " ").filter fun w => decide (0 < w.length)
theorem words_len (t : Str) : (wordsM t).length ≤ t.length + 2 := Nat.le_trans (List.length_filter_le _ _) (split_len _ _)
theorem words_mem {t x : Str} (h : x ∈ wordsM t) : x.length ≤ t.length ∧ 0 < x.length := by
  unfold wordsM at h
  rw [List.mem_filter] at h
  exact ⟨split_mem h.1, of_decide_eq_true h.2⟩
theorem str_ne {w : Str} : (!decide (V.str w = V.str "")) = decide (0 < w.length) := by
  by_cases h : w = ""
  · subst h
    rfl
  · have h1 : ¬ V.str w = V.str "" := fun e => h (by injection e)
    rw [decide_eq_false h1]
    have : 0 < w.length := by
      rcases Nat.eq_zero_or_pos w.length with q | q
      · exfalso
        apply h
        have : w.cps = #[] := Array.eq_empty_of_size_eq_zero q
        cases w
        simp only at this
        subst this
        rfl
      · exact q
    rw [decide_eq_true this]
    rfl
def npM (w : Int) (x : Str) : Nat := (Builtin.Range.rangeSize 0 (x.length : Int) w).toNat
theorem np_eq (w : Int) (x : Str) : Builtin.Range.rangeSize 0 (x.length : Int) w = (npM w x : Int) := PyProof.Rows.rangeSize_toNat _ _ _
theorem np_le (w : Int) (x : Str) : npM w x ≤ x.length := by
  have := PyProof.Rows.rangeSize_toNat_le 0 (x.length : Int) w
  unfold npM
  omega
def pcM (w : Int) (x : Str) : List Str := (List.range (npM w x)).map fun (i : Nat) => cutS x (some (0 + (i : Nat) * w)) (some (0 + (i : Nat) * w + w))
theorem pc_len (w : Int) (x : Str) : (pcM w x).length ≤ x.length := by
  unfold pcM
  rw [List.length_map, List.length_range]
  exact np_le w x
theorem cut_le (x : Str) (a b : Option Int) : (cutS x a b).length ≤ x.length := by
  unfold cutS
  show (((x.cps.toList.drop _).take _).toArray).size ≤ x.cps.size
  rw [List.size_toArray, List.length_take, List.length_drop, Array.length_toList]
  omega
theorem pc_mem {w : Int} {x y : Str} (h : y ∈ pcM w x) : y.length ≤ x.length := by
  unfold pcM at h
  obtain ⟨i, _, e⟩ := List.mem_map.mp h
  rw [← e]
  exact cut_le _ _ _
def stepM (w : Int) (ls : List Str) (x : Str) : List Str :=
  match ls[ls.length - 1]? with
  | some l => if (l.length : Int) + 1 + x.length ≤ w then ls.set (ls.length - 1) (l ++ " " ++ x) else ls ++ pcM w x
  | none => ls ++ pcM w x
def linesM (w : Int) (ws : List Str) : List Str := ws.foldl (stepM w) []
theorem lines_snoc (w : Int) (ws : List Str) {j : Nat} {x : Str} (h : ws[j]? = some x) : linesM w (ws.take (j + 1)) = stepM w (linesM w (ws.take j)) x := by
  unfold linesM
  rw [List.take_add_one, h]
  simp
theorem step_len (w : Int) (ls : List Str) (x : Str) : (stepM w ls x).length ≤ ls.length + x.length := by
  have := pc_len w x
  unfold stepM
  split
  · split
    · rw [List.length_set]; omega
    · rw [List.length_append]; omega
  · rw [List.length_append]; omega
theorem lines_len {w : Int} {B : Nat} : ∀ (ws : List Str) (acc : List Str), (∀ x ∈ ws, x.length ≤ B) → (ws.foldl (stepM w) acc).length ≤ acc.length + B * ws.length
  | [], acc, _ => by simp
  | x :: r, acc, h => by
    have ih := lines_len (w := w) r (stepM w acc x) fun y hy => h y (List.mem_cons_of_mem _ hy)
    have h1 := step_len w acc x
    have h2 := h x List.mem_cons_self
    simp only [List.foldl_cons, List.length_cons]
    rw [Nat.mul_succ]
    omega
theorem step_mem {w : Int} {ls : List Str} {x y : Str} {B : Nat} (hl : ∀ l ∈ ls, l.length ≤ B) (hx : x.length ≤ 60) (h : y ∈ stepM w ls x) : y.length ≤ B + 61 := by
  have pcs : y ∈ ls ++ pcM w x → y.length ≤ B + 61 := fun q => by
    rcases List.mem_append.mp q with q | q
    · have := hl y q; omega
    · have := pc_mem q; omega
  unfold stepM at h
  split at h
  · rename_i l e
    split at h
    · rcases List.mem_or_eq_of_mem_set h with q | q
      · have := hl y q; omega
      · have hl' := hl l (List.mem_of_getElem? e)
        rw [q, PySem.Str.length_append, PySem.Str.length_append]
        have : (" " : Str).length = 1 := by decide
        omega
    · exact pcs h
  · exact pcs h
theorem lines_mem {w : Int} : ∀ (ws : List Str) (acc : List Str) (B : Nat), (∀ x ∈ ws, x.length ≤ 60) → (∀ l ∈ acc, l.length ≤ B) → ∀ y ∈ ws.foldl (stepM w) acc, y.length ≤ B + 61 * ws.length
  | [], acc, B, _, hl, y, h => by simpa using hl y h
  | x :: r, acc, B, hx, hl, y, h => by
    have ih := lines_mem r (stepM w acc x) (B + 61) (fun z hz => hx z (List.mem_cons_of_mem _ hz)) (fun l q => step_mem hl (hx x List.mem_cons_self) q) y h
    simp only [List.length_cons]
    omega
def setM (t : Str) (w : Int) (b : Bool) : List Str := if b = true then linesM w (wordsM t) else [cutS t none (some w)]
theorem set_small {t : Str} {w : Int} {b : Bool} (h : t.length ≤ 60) : (setM t w b).length ≤ 4000 ∧ ∀ y ∈ setM t w b, y.length ≤ 4000 := by
  unfold setM
  have wl := words_len t
  split
  · refine ⟨?_, fun y hy => ?_⟩
    · have := lines_len (w := w) (B := 60) (wordsM t) [] fun x hx => Nat.le_trans (words_mem hx).1 h
      have e : (linesM w (wordsM t)).length ≤ 0 + 60 * (wordsM t).length := this
      omega
    · have := lines_mem (w := w) (wordsM t) [] 0 (fun x hx => Nat.le_trans (words_mem hx).1 h) (fun l hl => nomatch hl) y hy
      omega
  · refine ⟨by simp, fun y hy => ?_⟩
    rw [List.mem_singleton.mp hy]
    have := cut_le t none (some w)
    omega
/-- signs that are such -/
def OkS (x : Str) : Prop := ∀ c ∈ x.cps.toList, c < 0x110000
/-! ### the draw with its list named -/
def DrawL (H : Hp) (a l : Addr) : Prop := ∃ (ns : List Int) (i left seed n : Int), H a = some (drawO l i left seed n) ∧ H l = some (.lst (ns.map V.int)) ∧ 0 ≤ i ∧ 0 ≤ seed ∧ seed < 1000000007
theorem DrawL.at_ {H : Hp} {a l : Addr} (D : DrawL H a l) : DrawAt H a := ⟨l, D⟩
theorem DrawAt.lst {H : Hp} {a : Addr} (D : DrawAt H a) : ∃ l, DrawL H a l := D
theorem DrawL.same {H H' : Hp} {a l : Addr} (d : DrawL H a l) (e : Same H H') : DrawL H' a l := by
  obtain ⟨ns, i, left, seed, n, h1, h2, r⟩ := d
  exact ⟨ns, i, left, seed, n, e _ _ h1, e _ _ h2, r⟩
theorem DrawL.upd {H : Hp} {a l D : Addr} (d : DrawL H a l) (h1 : D ≠ a) (h2 : D ≠ l) (o : HO) : DrawL (L2.upd H D o) a l := by
  obtain ⟨ns, i, left, seed, n, e1, e2, r⟩ := d
  exact ⟨ns, i, left, seed, n, by rw [upd_ne h1.symm]; exact e1, by rw [upd_ne h2.symm]; exact e2, r⟩
theorem DrawL.new {H : Hp} {a l p : Addr} (d : DrawL H a l) (h : H p = none) : p ≠ a ∧ p ≠ l := by
  obtain ⟨ns, i, left, seed, n, e1, e2, r⟩ := d
  exact ⟨(ne_of_none e1 h).symm, (ne_of_none e2 h).symm⟩
/-- all but the draw is as it was -/
def ExtL (a l : Addr) (H H' : Hp) : Prop := DrawL H' a l ∧ ∀ b o, b ≠ a → H b = some o → H' b = some o
theorem ExtL.trans {a l : Addr} {H H1 H2 : Hp} (x : ExtL a l H H1) (y : ExtL a l H1 H2) : ExtL a l H H2 := ⟨y.1, fun b o n h => y.2 b o n (x.2 b o n h)⟩
theorem ExtL.same {a l : Addr} {H H1 H2 : Hp} (x : ExtL a l H H1) (y : Same H1 H2) : ExtL a l H H2 := ⟨x.1.same y, fun b o n h => y b o (x.2 b o n h)⟩
theorem ExtL.of {a l : Addr} {H H1 : Hp} (d : DrawL H a l) (y : Same H H1) : ExtL a l H H1 := ⟨d.same y, fun b o _ h => y b o h⟩
theorem ExtL.pick {a l : Addr} {H H1 : Hp} (d : DrawL H1 a l) (e : ∀ b, b ≠ a → H1 b = H b) : ExtL a l H H1 := ⟨d, fun b o n h => by rw [e b n]; exact h⟩
theorem ExtL.refl {a l : Addr} {H : Hp} (d : DrawL H a l) : ExtL a l H H := ⟨d, fun _ _ _ h => h⟩
theorem ExtL.tup {a l b : Addr} {H H1 : Hp} {xs : List V} (x : ExtL a l H H1) (d : DrawL H a l) (h : H b = some (.tup xs)) : H1 b = some (.tup xs) := x.2 b _ (d.at_.neT h) h
theorem ExtL.upd {a l D : Addr} {H H1 : Hp} (x : ExtL a l H H1) (n : H D = none) (h1 : D ≠ a) (h2 : D ≠ l) (o : HO) : ExtL a l H (L2.upd H1 D o) := ⟨x.1.upd h1 h2 o, fun b u nb h => by rw [upd_ne (ne_of_none h n)]; exact x.2 b u nb h⟩
def spPickL : Sp := fun vs H Q _ => ∃ (a l : Addr) (many : Int), vs = [.ref a, .int many] ∧ DrawL H a l ∧ 1 ≤ many ∧ many < 1073741824 ∧
  ∀ (r : Int) (H' : Hp), 0 ≤ r → r < many → DrawL H' a l → (∀ b, b ≠ a → H' b = H b) → Q (.int r) H'
/-! ### what the defs promise -/
def spWide (cS : Addr) : Sp := fun vs H Q E => ∃ i : Int, vs = [.int i] ∧ Sm i ∧ (1 ≤ i → Q .non H) ∧ (i < 1 → E (.ref cS) none H)
def spWords : Sp := fun vs H Q _ => ∃ t : Str, vs = [.str t] ∧ t.length ≤ 60 ∧ ∀ (l : Addr) (H' : Hp), H l = none → Same H H' → H' l = some (.lst ((wordsM t).map V.str)) → Q (.ref l) H'
def spPcs : Sp := fun vs H Q _ => ∃ (x : Str) (w : Int), vs = [.str x, .int w] ∧ x.length ≤ 60 ∧ 1 ≤ w ∧ w ≤ 100000000 ∧ ∀ (l : Addr) (H' : Hp), H l = none → Same H H' → H' l = some (.lst ((pcM w x).map V.str)) → Q (.ref l) H'
def spSetL (cS : Addr) : Sp := fun vs H Q E => ∃ (t : Str) (w : Int) (b : Bool), vs = [.str t, .int w, .bl b] ∧ t.length ≤ 60 ∧ Sm w ∧ w ≤ 100000000 ∧
  (1 ≤ w → ∀ (l : Addr) (H' : Hp), H l = none → Same H H' → H' l = some (.lst ((setM t w b).map V.str)) → Q (.ref l) H') ∧ (w < 1 → E (.ref cS) none H)
def spLLines : Sp := fun vs H Q _ => ∃ (t : Str) (w : Int) (b : Bool), vs = [.str t, .int w, .bl b] ∧ t.length ≤ 60 ∧ OkS t ∧ 1 ≤ w ∧ w ≤ 100000000 ∧
  ∀ (l : Addr) (H' : Hp), Same H H' → H' l = some (.lst ((setM t w b).map V.str)) → Q (.ref l) H'
def spOneT : Sp := fun vs H Q _ => ∃ (a l : Addr) (z : Str), vs = [.ref a, .str z] ∧ DrawL H a l ∧ 1 ≤ z.length ∧ z.length ≤ 1000 ∧ OkS z ∧ ∀ (y : Str) (H' : Hp), y.length = 1 → OkS y → DrawL H' a l → (∀ b, b ≠ a → H' b = H b) → Q (.str y) H'
def spTextD : Sp := fun vs H Q _ => ∃ (a l : Addr) (most : Int), vs = [.ref a, .int most] ∧ DrawL H a l ∧ 0 ≤ most ∧ most ≤ 40 ∧ ∀ (t : Str) (H' : Hp), t.length ≤ 48 → OkS t → ExtL a l H H' → Q (.str t) H'
def spTold11 : Sp := fun vs H Q _ => ∃ (t : Str) (w : Int) (b : Bool), vs = [.str t, .int w, .bl b] ∧ t.length ≤ 60 ∧ Sm w ∧ w ≤ 100000000 ∧
  (1 ≤ w → ∀ (l : Addr) (H' : Hp), Same H H' → H' l = some (.lst ((setM t w b).map V.str)) → Q (.ref l) H') ∧ (w < 1 → ∀ H', Same H H' → Q (.str "BadSize") H')
theorem signs_at {r : Int} (h0 : 0 ≤ r) (h1 : r < 5) : ∃ z : Str, atI [V.str "ab ", .str "abcdefg  .", .str "x", .str " ", .str "AZ az 09 ~!#$"] r = some (.str z) ∧ 1 ≤ z.length ∧ z.length ≤ 1000 ∧ PyData.strOk z = true := by
  have : r = 0 ∨ r = 1 ∨ r = 2 ∨ r = 3 ∨ r = 4 := by omega
  rcases this with rfl | rfl | rfl | rfl | rfl
  · exact ⟨_, atI_nat (j := 0) rfl, by decide +kernel, by decide +kernel, by decide +kernel⟩
  · exact ⟨_, atI_nat (j := 1) rfl, by decide +kernel, by decide +kernel, by decide +kernel⟩
  · exact ⟨_, atI_nat (j := 2) rfl, by decide +kernel, by decide +kernel, by decide +kernel⟩
  · exact ⟨_, atI_nat (j := 3) rfl, by decide +kernel, by decide +kernel, by decide +kernel⟩
  · exact ⟨_, atI_nat (j := 4) rfl, by decide +kernel, by decide +kernel, by decide +kernel⟩
theorem RgC.up {j c : Int} (h0 : 0 ≤ j) (h1 : j < 1000000) (hc : 1 ≤ c) (hc' : c ≤ 100000000) : RgC 0 j c (Builtin.Range.rangeSize 0 j c).toNat := by
  refine ⟨by omega, by omega, ?_, PyProof.Rows.rangeSize_toNat _ _ _⟩
  have e := PyProof.Rows.rangeSize_pos hc h0
  have h2 : 0 ≤ (j + c - 1) / c := Int.ediv_nonneg (by omega) (by omega)
  have h3 : (j + c - 1) / c ≤ j := by
    have := PyProof.Rows.rangeSize_toNat_le 0 j c
    rw [e] at this
    omega
  have h4 : ((j + c - 1) / c) * c ≤ j + c - 1 := Int.ediv_mul_le _ (by omega)
  unfold Builtin.Range.small
  rw [e, if_pos (show c > 0 by omega)]
  simp only [Builtin.Range.rangeFitsLong, Bool.and_eq_true, Bool.or_eq_true, decide_eq_true_eq, beq_iff_eq]
  omega
end Gs
namespace Gs
open PySem L2
theorem strs_dp {K : PySem.W.Frag} {H : Hp} : ∀ ns : List Str, DpAll K H (ns.map V.str) (ns.map PyData.str)
  | [] => .nil
  | _ :: r => .cons (.str _) (strs_dp r)
theorem OkS.ok {x : Str} (h : OkS x) : PyData.strOk x = true := by
  unfold PyData.strOk
  rw [← Array.all_toList, List.all_eq_true]
  exact fun c hc => decide_eq_true (h c hc)
theorem app_toList (a b : Str) : (a ++ b).cps.toList = a.cps.toList ++ b.cps.toList := by
  show (a.cps ++ b.cps).toList = _
  exact Array.toList_append
theorem OkS.app {a b : Str} (h1 : OkS a) (h2 : OkS b) : OkS (a ++ b) := fun c hc => by
  rw [app_toList] at hc
  rcases List.mem_append.mp hc with q | q
  · exact h1 c q
  · exact h2 c q
theorem OkS.cut {x : Str} (h : OkS x) (a b : Option Int) : OkS (cutS x a b) := fun c hc => by
  unfold cutS at hc
  exact h c (List.mem_of_mem_drop (List.mem_of_mem_take hc))
theorem OkS.split {x y z : Str} (h : OkS x) (m : z ∈ Txt.split x y) : OkS z := by
  unfold Txt.split at m
  split at m
  · rw [List.mem_singleton.mp m]; exact h
  split at m
  · rw [List.mem_singleton.mp m]; exact h
  · unfold Builtin.Str.partsBetween at m
    obtain ⟨⟨i, j⟩, _, e⟩ := List.mem_map.mp m
    rw [← e]
    intro c hc
    refine h c ?_
    have hc' : c ∈ (x.cps.extract i j).toList := hc
    rw [Array.toList_extract] at hc'
    exact List.mem_of_mem_drop (List.mem_of_mem_take hc')
theorem OkS.one {z : Str} {i : Int} {c : Nat} (h : OkS z) (e : atI z.cps.toList i = some c) : OkS ⟨#[c]⟩ := fun d hd => by
  have hd' : d = c := by simpa using hd
  rw [hd']
  unfold atI at e
  cases q : ixN z.cps.toList.length i with
  | none => rw [q] at e; cases e
  | some j => rw [q] at e; exact h c (List.mem_of_getElem? e)
theorem OkS.join : ∀ {ys : List Str}, (∀ y ∈ ys, OkS y) → OkS (Txt.join "" ys) := fun {ys} h => by
  show OkS (Builtin.Str.glued "" ys)
  rw [StrLaws.glued_eq_join]
  induction ys with
  | nil => intro c hc; exact absurd hc (by show ¬ c ∈ []; simp)
  | cons y r ih =>
    cases r with
    | nil => exact h y List.mem_cons_self
    | cons z r => exact ((h y List.mem_cons_self).app (fun c hc => absurd hc (by show ¬ c ∈ []; simp))).app (ih fun w hw => h w (List.mem_cons_of_mem _ hw))
theorem OkS.of {x : Str} (h : PyData.strOk x = true) : OkS x := by
  unfold PyData.strOk at h
  rw [← Array.all_toList, List.all_eq_true] at h
  exact fun c hc => of_decide_eq_true (h c hc)
theorem OkS.blank : OkS " " := OkS.of (by decide +kernel)
theorem words_ok {t : Str} (h : OkS t) : ∀ x ∈ wordsM t, OkS x := fun x hx => by
  unfold wordsM at hx
  exact h.split (List.mem_filter.mp hx).1
theorem pc_ok {w : Int} {x : Str} (h : OkS x) : ∀ y ∈ pcM w x, OkS y := fun y hy => by
  unfold pcM at hy
  obtain ⟨i, _, e⟩ := List.mem_map.mp hy
  rw [← e]
  exact h.cut _ _
theorem step_ok {w : Int} {ls : List Str} {x : Str} (hl : ∀ l ∈ ls, OkS l) (hx : OkS x) : ∀ y ∈ stepM w ls x, OkS y := fun y h => by
  have pcs : y ∈ ls ++ pcM w x → OkS y := fun q => by
    rcases List.mem_append.mp q with q | q
    · exact hl y q
    · exact pc_ok hx y q
  unfold stepM at h
  split at h
  · rename_i l e
    split at h
    · rcases List.mem_or_eq_of_mem_set h with q | q
      · exact hl y q
      · rw [q]
        exact ((hl l (List.mem_of_getElem? e)).app OkS.blank).app hx
    · exact pcs h
  · exact pcs h
theorem lines_ok {w : Int} : ∀ (ws : List Str) (acc : List Str), (∀ x ∈ ws, OkS x) → (∀ l ∈ acc, OkS l) → ∀ y ∈ ws.foldl (stepM w) acc, OkS y
  | [], acc, _, hl, y, h => hl y h
  | x :: r, acc, hx, hl, y, h => lines_ok r (stepM w acc x) (fun z hz => hx z (List.mem_cons_of_mem _ hz)) (step_ok hl (hx x List.mem_cons_self)) y h
theorem set_ok {t : Str} {w : Int} {b : Bool} (h : OkS t) : ∀ y ∈ setM t w b, OkS y := by
  unfold setM
  split
  · exact lines_ok (wordsM t) [] (words_ok h) (fun l hl => nomatch hl)
  · intro y hy
    rw [List.mem_singleton.mp hy]
    exact h.cut _ _
theorem strs_lay : ∀ ns : List Str, (∀ n ∈ ns, OkS n) → PyData.canLayAll0 (ns.map PyData.str) = true ∧ PyData.depthAll (ns.map PyData.str) = 0
  | [], _ => by simp [PyData.canLayAll0, PyData.depthAll]
  | c :: r, h => by
    obtain ⟨h1, h2⟩ := strs_lay r fun n hn => h n (List.mem_cons_of_mem _ hn)
    have h3 := (h c List.mem_cons_self).ok
    constructor
    · simp [PyData.canLay0, PyData.canLayAll0, h3] at h1 ⊢
      exact h1
    · simp only [List.map_cons, PyData.depthAll, PyData.depth]
      omega
theorem strs_dep : ∀ ns : List Str, PyData.depthAll (ns.map PyData.str) = 0
  | [] => by simp [PyData.depthAll]
  | c :: r => by
    have := strs_dep r
    simp only [List.map_cons, PyData.depthAll, PyData.depth]
    omega
theorem strs_shaped {ns : List Str} (h : ∀ n ∈ ns, OkS n) : SeqAt.shaped (.list (ns.map PyData.str)) = true := by
  obtain ⟨h1, h2⟩ := strs_lay ns h
  unfold SeqAt.shaped
  rw [Bool.and_eq_true]
  refine ⟨by simp only [PyData.canLay0]; exact h1, decide_eq_true ?_⟩
  simp only [PyData.depth]
  omega
theorem nil_shaped : SeqAt.shaped (.list []) = true := by simp [SeqAt.shaped, PyData.canLay0, PyData.canLayAll0, PyData.depth, PyData.depthAll]
theorem strs_nil (cs : List Str) : (!PyData.eqv (.list (cs.map PyData.str)) (.list [])) = !cs.isEmpty := by
  cases cs with
  | nil => simp [PyData.eqv, PyData.eqvAll]
  | cons c r => simp [PyData.eqv, PyData.eqvAll]
theorem strs_mxl : ∀ ns : List Str, mxlAll (ns.map PyData.str) = 0
  | [] => by simp [mxlAll]
  | c :: r => by simp [mxlAll, mxl, strs_mxl r]
theorem strs_depth (ns : List Str) : PyData.depth (.list (ns.map PyData.str)) = 1 := by simp [PyData.depth, strs_dep ns]
theorem strs_mxl' (ns : List Str) : mxl (.list (ns.map PyData.str)) = ns.length := by simp [mxl, strs_mxl]
theorem at_lastS {ls : List Str} {l : Str} (h : ls[ls.length - 1]? = some l) : atI (ls.map V.str) (-1) = some (.str l) ∧ ixN (ls.map V.str).length (-1) = some (ls.length - 1) := by
  have l0 : 0 < ls.length := by
    obtain ⟨q, _⟩ := List.getElem?_eq_some_iff.mp h
    omega
  have ix : ixN (ls.map V.str).length (-1) = some (ls.length - 1) := by
    unfold ixN
    rw [List.length_map, if_neg (by decide), if_pos (by omega)]
    congr 1
    omega
  refine ⟨?_, ix⟩
  unfold atI
  rw [ix]
  show (ls.map V.str)[ls.length - 1]? = _
  rw [List.getElem?_map, h]
  rfl
theorem last_none {ls : List Str} (h : ls[ls.length - 1]? = none) : ls = [] := by
  cases ls with
  | nil => rfl
  | cons a r => simp at h
theorem empty_of_last {ls : List Str} {l : Str} (h : ls[ls.length - 1]? = some l) : (ls.map V.str).isEmpty = false := by
  cases ls with
  | nil => simp at h
  | cons a r => rfl
theorem DrawAt.updNew {H H' : Hp} {a l : Addr} (D : DrawAt H a) (n : H l = none) (s : Same H H') (o : HO) : DrawAt (upd H' l o) a := by
  obtain ⟨l0, ns, i, left, seed, m, h1, h2, r⟩ := D
  exact ⟨l0, ns, i, left, seed, m, by rw [upd_ne (ne_of_none h1 n)]; exact s _ _ h1, by rw [upd_ne (ne_of_none h2 n)]; exact s _ _ h2, r⟩
theorem Ext.draw {a : Addr} {H H' : Hp} (e : Ext a H H') : DrawAt H' a := e.1
theorem ints_atL {xs : List Int} {r : Int} (h0 : 0 ≤ r) (h1 : r < (xs.length : Int)) : ∃ n, n ∈ xs ∧ atI (xs.map V.int) r = some (.int n) := by
  have hk : r.toNat < xs.length := by omega
  refine ⟨xs[r.toNat], List.getElem_mem hk, at_of (j := r.toNat) (by omega) ?_⟩
  rw [List.getElem?_map, List.getElem?_eq_getElem hk]
  rfl
theorem join_len (ys : List Str) (h : ∀ y ∈ ys, y.length = 1) : (Txt.join "" ys).length = ys.length := PySem.W.KT.join_ones ys h
end Gs

set_option Elab.async false
set_option linter.all false
set_option maxRecDepth 100000
set_option maxHeartbeats 4000000
namespace Gs
open PySem L2
/-! ### a text so many times -/
theorem op_mul_str {X : Cx} : OpR X (binaryOp .Mult) (fun x y H Q => ∃ z n, x = .str z ∧ y = .int n ∧ MulOk z n ∧ Q (.str (Txt.mul z n)) H) := by
  intro pins s σ H x y v u Q I rx ry h
  obtain ⟨z, n, rfl, rfl, hz, q⟩ := h
  obtain ⟨t, rfl⟩ := rx
  obtain ⟨t', rfl⟩ := ry
  exact PySem.SB.mul hz (fun t' tk => ⟨.str _, H, I.tok _, ⟨_, rfl⟩, q⟩)
theorem b1 : (" " : Str).length = 1 := by decide +kernel
theorem mulOk_blank {n : Int} (h0 : -1000000 ≤ n) (h1 : n ≤ 1000000) : MulOk " " n := by
  refine ⟨?_, fun hn _ => ?_, fun hn _ => ?_⟩
  · rw [decide_eq_false (by omega), decide_eq_false (by omega)]
    rfl
  · rw [b1]
    have : 1 ≤ ((2 : Int) ^ 63 - 1) / n := Int.le_ediv_of_mul_le (by omega) (by omega)
    omega
  · rw [b1]
    unfold Builtin.Str.tooLong
    refine decide_eq_false ?_
    have : sizeLine = 16777216 := by decide
    omega
theorem foldl_blank : ∀ (k : Nat) (acc : Array Nat), (List.replicate k (#[32] : Array Nat)).foldl (· ++ ·) acc = acc ++ (List.replicate k 32).toArray
  | 0, acc => by simp
  | k + 1, acc => by
    rw [List.replicate_succ, List.foldl_cons, foldl_blank k]
    rw [List.replicate_succ, Array.append_assoc]
    congr 1
    apply Array.toList_inj.mp
    simp
theorem mul_blank (n : Int) : Txt.mul " " n = ⟨(List.replicate n.toNat 32).toArray⟩ := by
  unfold Txt.mul
  split
  · rename_i h
    rw [show n.toNat = 0 by omega]
    rfl
  · split
    · rename_i h1 h2
      rw [b1] at h2
      have : n = 1 := by simpa using h2
      subst this
      rfl
    · have e : (" " : Str).cps = #[32] := by decide +kernel
      rw [e, foldl_blank]
      simp
theorem str_ext {a b : Str} (h : a.cps.toList = b.cps.toList) : a = b := by
  cases a
  cases b
  simp only [Str.mk.injEq]
  exact Array.toList_inj.mp h
theorem len_toList (a : Str) : a.cps.toList.length = a.length := by rw [Array.length_toList]; rfl
theorem mul_len {n : Int} (h : 0 ≤ n) : ((Txt.mul " " n).length : Int) = n := by
  rw [mul_blank, ← len_toList]
  simp only [List.toList_toArray, List.length_replicate]
  omega
/-! ### a line in its box -/
def leadM (n : Int) (s : Str) : Int := if s = "left" ∨ s = "top" then 0 else if s = "middle" then n / 2 else n
theorem lead_bd {n : Int} {s : Str} (h : 0 ≤ n) : 0 ≤ leadM n s ∧ leadM n s ≤ n := by
  unfold leadM
  split
  · omega
  · split <;> omega
theorem lead_bd2 {n : Int} {s : Str} : leadM n s ≤ (if 0 ≤ n then n else 0) ∧ (if n ≤ 0 then n else 0) ≤ leadM n s := by
  unfold leadM
  split
  · split <;> split <;> omega
  · split
    · split <;> split <;> omega
    · split <;> split <;> omega
def lineM (ls : List Str) (r hi : Int) (h : Str) : Str := if 0 ≤ r - leadM (hi - ls.length) h ∧ r - leadM (hi - ls.length) h < ls.length then ls.getD (r - leadM (hi - ls.length) h).toNat "" else ""
def spreadM (line : Str) (w : Int) (s : Str) : Str := Txt.ljust (Txt.mul " " (leadM (w - line.length) s) ++ line) w
theorem spread_eq {line : Str} {w : Int} {s : Str} (h : (line.length : Int) ≤ w) : spreadM line w s = Txt.mul " " (leadM (w - line.length) s) ++ line ++ Txt.mul " " (w - line.length - leadM (w - line.length) s) := by
  have b := lead_bd (n := w - line.length) (s := s) (by omega)
  unfold spreadM
  generalize leadM (w - line.length) s = k at b
  have lx : ((Txt.mul " " k ++ line).length : Int) = k + line.length := by
    rw [PySem.Str.length_append]
    have := mul_len b.1
    omega
  unfold Txt.ljust
  split
  · have e : w - line.length - k = 0 := by omega
    rw [e]
    refine str_ext ?_
    rw [app_toList (Txt.mul " " k ++ line), mul_blank 0]
    simp
  · refine str_ext ?_
    rw [app_toList (Txt.mul " " k ++ line), mul_blank (w - line.length - k)]
    unfold Builtin.Str.padded
    have : w.toNat - (Txt.mul " " k ++ line).length = (w - line.length - k).toNat := by omega
    rw [this]
    simp
theorem cut_wide {x : Str} {a b : Int} (h0 : 0 ≤ a) (h : a ≤ b) : ((cutS x (some a) (some b)).length : Int) ≤ b - a := by
  rw [← len_toList]
  unfold cutS
  simp only [List.toList_toArray, List.length_take, List.length_drop, Array.length_toList]
  have e1 : HT.sIx x.length 0 (some a) = min a.toNat x.length := by
    show (if a < 0 then (a + (x.length : Int)).toNat else min a.toNat x.length) = _
    rw [if_neg (by omega)]
  have e2 : HT.sIx x.length x.length (some b) = min b.toNat x.length := by
    show (if b < 0 then (b + (x.length : Int)).toNat else min b.toNat x.length) = _
    rw [if_neg (by omega)]
  rw [e1, e2]
  omega
theorem cut_wide0 {x : Str} {b : Int} (h : 0 ≤ b) : ((cutS x none (some b)).length : Int) ≤ b := by
  rw [← len_toList]
  unfold cutS
  simp only [List.toList_toArray, List.length_take, List.length_drop, Array.length_toList]
  have e1 : HT.sIx x.length 0 none = 0 := rfl
  have e2 : HT.sIx x.length x.length (some b) = min b.toNat x.length := by
    show (if b < 0 then (b + (x.length : Int)).toNat else min b.toNat x.length) = _
    rw [if_neg (by omega)]
  rw [e1, e2]
  omega
theorem pc_wide {w : Int} {x y : Str} (hw : 1 ≤ w) (h : y ∈ pcM w x) : (y.length : Int) ≤ w := by
  unfold pcM at h
  obtain ⟨i, _, e⟩ := List.mem_map.mp h
  rw [← e]
  have h0 : 0 ≤ (i : Int) * w := Int.mul_nonneg (by omega) (by omega)
  have := cut_wide (x := x) (a := 0 + (i : Int) * w) (b := 0 + (i : Int) * w + w) (by omega) (by omega)
  omega
theorem step_wide {w : Int} {ls : List Str} {x : Str} (hw : 1 ≤ w) (hl : ∀ l ∈ ls, (l.length : Int) ≤ w) : ∀ y ∈ stepM w ls x, (y.length : Int) ≤ w := fun y h => by
  have pcs : y ∈ ls ++ pcM w x → (y.length : Int) ≤ w := fun q => by
    rcases List.mem_append.mp q with q | q
    · exact hl y q
    · exact pc_wide hw q
  unfold stepM at h
  split at h
  · split at h
    · rename_i l e c
      rcases List.mem_or_eq_of_mem_set h with q | q
      · exact hl y q
      · rw [q, PySem.Str.length_append, PySem.Str.length_append, b1]
        omega
    · exact pcs h
  · exact pcs h
theorem lines_wide {w : Int} (hw : 1 ≤ w) : ∀ (ws : List Str) (acc : List Str), (∀ l ∈ acc, (l.length : Int) ≤ w) → ∀ y ∈ ws.foldl (stepM w) acc, (y.length : Int) ≤ w
  | [], acc, hl, y, h => hl y h
  | x :: r, acc, hl, y, h => lines_wide hw r (stepM w acc x) (step_wide hw hl) y h
theorem set_wide {t : Str} {w : Int} {b : Bool} (hw : 1 ≤ w) : ∀ y ∈ setM t w b, (y.length : Int) ≤ w := by
  unfold setM
  split
  · exact lines_wide hw (wordsM t) [] (fun l hl => nomatch hl)
  · intro y hy
    rw [List.mem_singleton.mp hy]
    exact cut_wide0 (by omega)
theorem line_of {ls : List Str} {r hi : Int} {h : Str} : lineM ls r hi h ∈ ls ∨ lineM ls r hi h = "" := by
  unfold lineM
  split
  · rename_i c
    have hk : (r - leadM (hi - ls.length) h).toNat < ls.length := by omega
    refine .inl ?_
    rw [List.getD_eq_getElem?_getD, List.getElem?_eq_getElem hk]
    exact List.getElem_mem hk
  · exact .inr rfl
def laidM (t : Str) (high wide : Int) (s h : Str) (b : Bool) : List Str := (List.range high.toNat).map fun (r : Nat) => spreadM (lineM (setM t wide b) (0 + (r : Int)) high h) wide s
theorem spread_len {line : Str} {w : Int} {s : Str} (h : (line.length : Int) ≤ w) : ((spreadM line w s).length : Int) = w := by
  have b := lead_bd (n := w - line.length) (s := s) (by omega)
  rw [spread_eq h, PySem.Str.length_append, PySem.Str.length_append]
  have h1 := mul_len b.1
  have h2 := mul_len (n := w - line.length - leadM (w - line.length) s) (by omega)
  omega
def goodL (s h : Str) : Prop := (s = "left" ∨ s = "middle" ∨ s = "right") ∧ (h = "top" ∨ h = "middle" ∨ h = "bottom")
def good5 (s : Str) : Prop := s = "left" ∨ s = "middle" ∨ s = "right" ∨ s = "top" ∨ s = "bottom"
theorem goodL.s5 {s h : Str} (g : goodL s h) : good5 s := by rcases g.1 with e | e | e <;> simp [good5, e]
theorem goodL.h5 {s h : Str} (g : goodL s h) : good5 h := by rcases g.2 with e | e | e <;> simp [good5, e]
theorem inV_two (s a b : Str) : inV (.str s) [.str a, .str b] = decide (s = a ∨ s = b) := by
  have e : inV (.str s) [.str a, .str b] = ((a == s) || ((b == s) || false)) := rfl
  rw [e]
  by_cases h1 : a = s
  · rw [decide_eq_true (.inl h1.symm), beq_iff_eq.mpr h1]
    rfl
  · by_cases h2 : b = s
    · rw [decide_eq_true (.inr h2.symm), beq_iff_eq.mpr h2]
      simp
    · rw [decide_eq_false (by rintro (z | z); exact h1 z.symm; exact h2 z.symm), beq_eq_false_iff_ne.mpr h1, beq_eq_false_iff_ne.mpr h2]
      rfl
theorem inV_three (s a b c : Str) : inV (.str s) [.str a, .str b, .str c] = decide (s = a ∨ s = b ∨ s = c) := by
  have e : inV (.str s) [.str a, .str b, .str c] = ((a == s) || ((b == s) || ((c == s) || false))) := rfl
  rw [e, Bool.eq_iff_iff]
  simp only [Bool.or_eq_true, beq_iff_eq, decide_eq_true_eq, Bool.or_false]
  constructor
  · rintro (h | h | h)
    · exact .inl h.symm
    · exact .inr (.inl h.symm)
    · exact .inr (.inr h.symm)
  · rintro (h | h | h)
    · exact .inl h.symm
    · exact .inr (.inl h.symm)
    · exact .inr (.inr h.symm)
def spLead : Sp := fun vs H Q _ => ∃ (n : Int) (s : Str), vs = [.int n, .str s] ∧ ∀ H', Same H H' → Q (.int (leadM n s)) H'
def spStart : Sp := fun vs H Q _ => ∃ (n : Int) (s : Str), vs = [.int n, .str s] ∧ good5 s ∧ ∀ H', Same H H' → Q (.int (leadM n s)) H'
def spLineOn : Sp := fun vs H Q _ => ∃ (l : Addr) (ls : List Str) (r hi : Int) (h : Str), vs = [.ref l, .int r, .int hi, .str h] ∧ H l = some (.lst (ls.map V.str)) ∧ ∀ H', Same H H' → Q (.str (lineM ls r hi h)) H'
def spSpread : Sp := fun vs H Q _ => ∃ (x : Str) (w : Int) (s : Str), vs = [.str x, .int w, .str s] ∧ x.length ≤ 4000 ∧ 1 ≤ w ∧ w ≤ 100000 ∧ ∀ H', Same H H' → Q (.str (spreadM x w s)) H'
def spLookC (cL : Addr) : Sp := fun vs H Q E => ∃ s h : Str, vs = [.str s, .str h] ∧ s.length ≤ 100 ∧ h.length ≤ 100 ∧ (goodL s h → Q .non H) ∧ (¬ goodL s h → E (.ref cL) none H)
def spLaid (cS cL : Addr) : Sp := fun vs H Q E => ∃ (t : Str) (high wide : Int) (s h : Str) (b : Bool), vs = [.str t, .int high, .int wide, .str s, .str h, .bl b] ∧ t.length ≤ 60 ∧ Sm high ∧ Sm wide ∧ high ≤ 1000 ∧ wide ≤ 100000 ∧ s.length ≤ 100 ∧ h.length ≤ 100 ∧
  (1 ≤ high → 1 ≤ wide → goodL s h → ∀ (l : Addr) (H' : Hp), Same H H' → H' l = some (.lst ((laidM t high wide s h b).map V.str)) → Q (.ref l) H') ∧ (¬ (1 ≤ high ∧ 1 ≤ wide) → E (.ref cS) none H) ∧ (1 ≤ high → 1 ≤ wide → ¬ goodL s h → E (.ref cL) none H)
def spSetD : Sp := fun vs H Q _ => ∃ (t : Str) (high wide : Int) (k : Addr) (s h : Str) (b : Bool), vs = [.str t, .int high, .int wide, .ref k] ∧ H k = some (.tup [.str s, .str h, .bl b]) ∧ goodL s h ∧ t.length ≤ 60 ∧ OkS t ∧ 1 ≤ high ∧ high ≤ 1000 ∧ 1 ≤ wide ∧ wide ≤ 100000 ∧
  ∀ (l : Addr) (H' : Hp), Same H H' → H' l = some (.lst ((laidM t high wide s h b).map V.str)) → Q (.ref l) H'
def spTold13 : Sp := fun vs H Q _ => ∃ (t : Str) (high wide : Int) (k : Addr) (s h : Str) (b : Bool), vs = [.str t, .int high, .int wide, .ref k] ∧ H k = some (.tup [.str s, .str h, .bl b]) ∧ t.length ≤ 60 ∧ Sm high ∧ Sm wide ∧ high ≤ 1000 ∧ wide ≤ 100000 ∧ s.length ≤ 100 ∧ h.length ≤ 100 ∧
  (1 ≤ high → 1 ≤ wide → goodL s h → ∀ (l : Addr) (H' : Hp), Same H H' → H' l = some (.lst ((laidM t high wide s h b).map V.str)) → Q (.ref l) H') ∧
  (¬ (1 ≤ high ∧ 1 ≤ wide) → ∀ (l : Addr) (H' : Hp), Same H H' → H' l = some (.lst [.bl true, .bl false]) → Q (.ref l) H') ∧
  (1 ≤ high → 1 ≤ wide → ¬ goodL s h → ∀ (l : Addr) (H' : Hp), Same H H' → H' l = some (.lst [.bl false, .bl true]) → Q (.ref l) H')
def spLookD : Sp := fun vs H Q _ => ∃ a l : Addr, vs = [.ref a] ∧ DrawL H a l ∧ ∀ (t : Addr) (s h : Str) (b : Bool) (H' : Hp), goodL s h → ExtL a l H H' → H' t = some (.tup [.str s, .str h, .bl b]) → Q (.ref t) H'
end Gs
namespace Gs
open PySem L2
theorem bools_dp {K : PySem.W.Frag} {H : Hp} : ∀ ns : List Bool, DpAll K H (ns.map V.bl) (ns.map PyData.bool)
  | [] => .nil
  | _ :: r => .cons (.bl _) (bools_dp r)
theorem bools_lay : ∀ ns : List Bool, PyData.canLayAll0 (ns.map PyData.bool) = true ∧ PyData.depthAll (ns.map PyData.bool) = 0
  | [] => by simp [PyData.canLayAll0, PyData.depthAll]
  | c :: r => by
    obtain ⟨h1, h2⟩ := bools_lay r
    constructor
    · simp [PyData.canLay0, PyData.canLayAll0] at h1 ⊢
      exact h1
    · simp only [List.map_cons, PyData.depthAll, PyData.depth]
      omega
theorem bools_shaped (ns : List Bool) : SeqAt.shaped (.list (ns.map PyData.bool)) = true := by
  obtain ⟨h1, h2⟩ := bools_lay ns
  unfold SeqAt.shaped
  rw [Bool.and_eq_true]
  refine ⟨by simp only [PyData.canLay0]; exact h1, decide_eq_true ?_⟩
  simp only [PyData.depth]
  omega
theorem bools_nil (cs : List Bool) : PyData.eqv (.list (cs.map PyData.bool)) (.list []) = cs.isEmpty := by
  cases cs with
  | nil => simp [PyData.eqv, PyData.eqvAll]
  | cons c r => simp [PyData.eqv, PyData.eqvAll]
theorem bools_mxl : ∀ ns : List Bool, mxlAll (ns.map PyData.bool) = 0
  | [] => by simp [mxlAll]
  | c :: r => by simp [mxlAll, mxl, bools_mxl r]
theorem bools_depth (ns : List Bool) : PyData.depth (.list (ns.map PyData.bool)) = 1 := by simp [PyData.depth, (bools_lay ns).2]
theorem bools_mxl' (ns : List Bool) : mxl (.list (ns.map PyData.bool)) = ns.length := by simp [mxl, bools_mxl]
theorem Vals.rev : ∀ {vs : List V} {us : List Value}, Vals vs us → Vals vs.reverse us.reverse
  | _, _, .nil => .nil
  | _, _, .cons a r => by
    rw [List.reverse_cons, List.reverse_cons]
    exact Vals.append (Vals.rev r) (.cons a .nil)
def gW {α : Type} (vs mv ws : List α) : List α := match vs, mv, ws with
  | [t], [wr], [wi, hi, he, si] => [t, hi, wi, si, he, wr]
  | _, _, _ => []
theorem gW_rel : ∀ {vs mz zs : List V} {us mv ws : List Value}, Vals vs us → Vals mz mv → Vals zs ws → Vals (gW vs mz zs) (gW us mv ws) := by
  intro vs mz zs us mv ws h1 h2 h3
  rcases h1 with _ | ⟨a, _ | ⟨b, r⟩⟩ <;> rcases h2 with _ | ⟨a2, _ | ⟨b2, r2⟩⟩ <;> rcases h3 with _ | ⟨c1, _ | ⟨c2, _ | ⟨c3, _ | ⟨c4, _ | ⟨c5, r5⟩⟩⟩⟩⟩ <;> first | exact .nil | exact .cons a (.cons c2 (.cons c1 (.cons c4 (.cons c3 (.cons a2 .nil)))))
theorem laid_len {t : Str} {high wide : Int} {s h : Str} {b : Bool} : (laidM t high wide s h b).length = high.toNat := by
  unfold laidM
  rw [List.length_map, List.length_range]
def sideG (s : Str) : Prop := s = "left" ∨ s = "middle" ∨ s = "right"
def highG (h : Str) : Prop := h = "top" ∨ h = "middle" ∨ h = "bottom"
theorem odd_sides {r : Int} (h0 : 0 ≤ r) (h1 : r < 4) : ∃ z : Str, atI [V.str "top", .str "", .str "Left", .str "bottom"] r = some (.str z) ∧ z.length ≤ 100 ∧ ¬ sideG z := by
  have : r = 0 ∨ r = 1 ∨ r = 2 ∨ r = 3 := by omega
  unfold sideG
  rcases this with rfl | rfl | rfl | rfl
  · exact ⟨_, atI_nat (j := 0) rfl, by decide +kernel, by decide +kernel⟩
  · exact ⟨_, atI_nat (j := 1) rfl, by decide +kernel, by decide +kernel⟩
  · exact ⟨_, atI_nat (j := 2) rfl, by decide +kernel, by decide +kernel⟩
  · exact ⟨_, atI_nat (j := 3) rfl, by decide +kernel, by decide +kernel⟩
theorem odd_highs {r : Int} (h0 : 0 ≤ r) (h1 : r < 4) : ∃ z : Str, atI [V.str "left", .str "", .str "Top", .str "right"] r = some (.str z) ∧ z.length ≤ 100 ∧ ¬ highG z := by
  have : r = 0 ∨ r = 1 ∨ r = 2 ∨ r = 3 := by omega
  unfold highG
  rcases this with rfl | rfl | rfl | rfl
  · exact ⟨_, atI_nat (j := 0) rfl, by decide +kernel, by decide +kernel⟩
  · exact ⟨_, atI_nat (j := 1) rfl, by decide +kernel, by decide +kernel⟩
  · exact ⟨_, atI_nat (j := 2) rfl, by decide +kernel, by decide +kernel⟩
  · exact ⟨_, atI_nat (j := 3) rfl, by decide +kernel, by decide +kernel⟩
theorem good_len {s h : Str} (g : goodL s h) : s.length ≤ 100 ∧ h.length ≤ 100 := by
  obtain ⟨g1, g2⟩ := g
  constructor
  · rcases g1 with rfl | rfl | rfl <;> decide +kernel
  · rcases g2 with rfl | rfl | rfl <;> decide +kernel
end Gs

set_option Elab.async false
set_option linter.all false
set_option maxRecDepth 100000
set_option maxHeartbeats 4000000
namespace Gs
open PySem PySem.W PyProof.Rows L2
/-! ### a, b, *rest = a tuple -/
theorem star_items {pg : Program} {wd : World} {A : Around} {E : Value → Shared → Prop} {z : Shared} {tp : Addr} {its : Array Value} {i : Nat} {R : List Value → Shared → Prop} (ht : IsTup z.heap tp its) (hd : A.handled = none) (hi : i ≤ its.size) (hz : its.size ≤ 16384)
    (hR : ∀ (g : Heap) (tk : Nat), (∀ b o, z.heap.get? b = some o → g.get? b = some o) → R (its.toList.take i ++ [.ref g.objs.size] ++ []) { z with heap := g.push { cls := .type "list", data := .seq (its.toList.drop i).toArray }, toks := tk }) :
    wpAny (model pg wd) A (unpackItems (.ref tp) (i + 1) (some i)) R E z := by
  have lt : tp < z.heap.objs.size := by
    obtain ⟨o, ho, _⟩ := ht
    exact Heap.lt_size ho
  have ne : tp ≠ z.heap.objs.size := Nat.ne_of_lt lt
  unfold unpackItems notIterableAtAll
  refine wpAny_bind (wpAny_bind (wpAny_specialOf ht.typeIs slot_tuple_iter.lookup (wpAny_pure ?_)))
  simp only [Bool.false_eq_true, if_false]
  refine wpAny_bind (wpAny_holding (iter_tuple ht (wpAny_bind (wpAny_holding (draw_tuple ne i 0 _ _ ⟨_, Heap.get?_push_size _ rfl, rfl, rfl⟩ (ht.push _) (by omega) fun g1 it1 sb1 => ?_)))))
  have t1 : IsTup g1 tp its := (ht.push _).extBut sb1.extBut ne
  rw [Nat.zero_add] at it1
  rw [List.drop_zero]
  have len1 : (its.toList.take i).length = i := by rw [List.length_take, Array.length_toList]; omega
  have len2 : (its.toList.drop i).length = its.size - i := by rw [List.length_drop, Array.length_toList]
  rw [if_neg (by rw [len1]; omega)]
  have hi1 : z.heap.objs.size < g1.objs.size := by
    obtain ⟨o, ho, _⟩ := id it1
    exact Heap.lt_size ho
  have ht1 : tp < g1.objs.size := by
    obtain ⟨o, ho, _⟩ := id t1
    exact Heap.lt_size ho
  refine wpAny_bind (wpAny_holding (kun_collect (s := { z with heap := g1 }) (T := "tuple_iterator") (.inr (.inr (.inr rfl))) (Walks.tuple (A := A.in1) hd z.heap.objs.size tp ne its) (fun j u st => st.1.typeIs) (k := i) hi ⟨it1, t1⟩ hi1 ht1 (fun g2 tk kp => ?_) (by rw [sizeLine_eq]; omega)))
  have e0 : i + 1 - 1 - i = 0 := by omega
  rw [e0]
  show wpAny _ _ (if (its.toList.drop i).length < 0 then _ else _) _ _ _
  rw [if_neg (Nat.not_lt_zero _)]
  have e1 : (its.toList.drop i).take ((its.toList.drop i).length - 0) = its.toList.drop i := by rw [Nat.sub_zero, List.take_length]
  have e2 : (its.toList.drop i).drop ((its.toList.drop i).length - 0) = [] := by rw [Nat.sub_zero, List.drop_length]
  rw [e1, e2]
  refine wpAny_bind (wpAny_newList (wpAny_pure (hR g2 tk fun b o q => kp b o (Nat.ne_of_lt (Heap.lt_size q)) (sb1.extBut b o (Nat.ne_of_lt (Heap.lt_size q)) (Heap.get?_push_of_some _ q)))) (by rw [len2, sizeLine_eq]; omega))
theorem vals_drop : ∀ (n : Nat) {vs : List V} {us : List Value}, Vals vs us → Vals (vs.drop n) (us.drop n)
  | 0, _, _, h => h
  | _ + 1, _, _, .nil => .nil
  | n + 1, _, _, .cons _ r => vals_drop n r
theorem vals_take : ∀ (n : Nat) {vs : List V} {us : List Value}, Vals vs us → Vals (vs.take n) (us.take n)
  | 0, _, _, _ => .nil
  | _ + 1, _, _, .nil => .nil
  | n + 1, _, _, .cons a r => .cons a (vals_take n r)
def gTupS (K : PySem.W.Frag) (i : Nat) (t : TGs) : TG := fun v σ H Q => ∃ a xs, v = .ref a ∧ SqT K H a xs ∧ i ≤ xs.length ∧ xs.length ≤ 1000 ∧ ∀ p, H p = none → t (xs.take i ++ [.ref p]) σ (upd H p (.lst (xs.drop i))) Q
theorem pg_tupS {X : Cx} {pos : Pos} {es : List Expr} {k i : Nat} {t : TGs} (hc : X.calm = true) (h : PGs X es t) (hn : (assignEach es X.env).length = i + 1 := by rfl) (hst : (assignEach es X.env).findIdx? (·.1) = some i := by rfl) : PG X (.Tuple es k pos) (gTupS X.K i t) := by
  refine ⟨fun pins s σ H v u Q I r hw => ?_⟩
  obtain ⟨a, xs, rfl, hq, hl, hz, hw⟩ := hw
  cases r
  obtain ⟨its, rv, ht, _⟩ := I.tuple hq
  have le := rv.length
  rw [assign_Tuple]
  refine wpAny_bind (wpAny_standAt ?_)
  unfold unpack
  rw [hn, hst]
  refine wpAny_bind (wpAny_holding (star_items ht (I.ok.hd hc) (by rw [List.size_toArray]; omega) (by rw [List.size_toArray]; omega) fun g tk kp => ?_))
  have I1 : Inv X pins σ H { s with heap := g, toks := tk } := I.kept kp
  have rd : Vals (xs.drop i) (its.drop i) := vals_drop i rv
  have rt : Vals (xs.take i) (its.take i) := vals_take i rv
  have I2 : Inv X pins σ (upd H g.objs.size (.lst (xs.drop i))) { s with heap := g.push { cls := .type "list", data := .seq (its.drop i).toArray }, toks := tk } :=
    I1.laid (t' := tk) (fun b o e => Heap.get?_push_of_some _ e) (Nat.le_refl _) ⟨by rw [List.length_drop]; exact Nat.le_trans (Nat.sub_le _ _) (small hz), its.drop i, 0, rd, Heap.get?_push_size _ rfl⟩
  have hf : H g.objs.size = none := I1.hok.fresh (Nat.le_refl _)
  rw [List.append_nil]
  exact h.run pins _ σ _ _ _ Q I2 (Vals.append rt (show Vals [V.ref g.objs.size] [Value.ref g.objs.size] from .cons rfl .nil)) (hw _ hf)
theorem pgs_star {X : Cx} {e : Expr} {p : Pos} {t : TG} (h : PG X e t) : PGs X [.Starred e p] (gCons t gNil) := by
  refine ⟨fun pins s σ H vs us Q I r hw => ?_⟩
  obtain ⟨v, vr, rfl, hw⟩ := hw
  cases r with
  | cons r rr =>
    show wpAny _ _ (assignInOrder [assign e X.env] _) _ _ _
    refine assignInOrder_cons (thn (h.run pins s σ H _ _ _ I r hw) fun _ s1 ⟨σ1, H1, I1, q1⟩ => ?_)
    obtain ⟨rfl, q1⟩ := q1
    cases rr
    exact assignInOrder_nil ⟨σ1, H1, I1, q1⟩
/-! ### for i, c in enumerate(text) -/
def ItES (z : Str) : It := ⟨fun i _ => i < z.cps.size, fun i H v H' => ∃ T c, v = .ref T ∧ H T = none ∧ z.cps[i]? = some c ∧ H' = upd H T (.tup [.int (i : Nat), .str ⟨#[c]⟩]), fun i _ => z.cps.size ≤ i⟩
theorem draws_text {pg : Program} {wd : World} {A : Around} (hd : A.handled = none) (it : Addr) (x : Str) (t : Tok) :
    Draws pg wd A it [it] x.cps.size (fun i v => ∃ c u, x.cps[i]? = some c ∧ v = .str ⟨#[c]⟩ u) (fun i h => h.IsStrIter it (strIterType x) x t i) := by
  unfold strIterType
  split
  · exact Draws.strAscii hd it x t
  · exact Draws.strWide hd it x t
theorem turn_enumS {P : Program} {w : World} {K : PySem.W.Frag} {elts : List Expr} {kk : Nat} {tpos : Pos} (z : Str) (tk : Tok) (en it : Addr) :
    Turn P w K (.Tuple elts kk tpos) (ItES z) [en, it] en (fun i h => (∃ old, IsEnum h en it ((i : Nat) : Int) old) ∧ h.IsStrIter it (strIterType z) z tk i ∧ en ≠ it ∧ i ≤ z.cps.size) where
  mem := by simp
  obj := fun i h st b hb => by
    obtain ⟨⟨old, he⟩, ⟨o, ho, hc, hdt⟩, _⟩ := st
    simp only [List.mem_cons, List.mem_nil_iff, or_false] at hb
    rcases hb with rfl | rfl
    · exact ⟨_, he, fun v q => nomatch q⟩
    · exact ⟨o, ho, fun v q => by rw [hdt] at q; cases q⟩
  keep := fun i h h' st k => by
    obtain ⟨⟨old, he⟩, ⟨o, ho, r⟩, ne, le⟩ := st
    exact ⟨⟨old, k en (by simp) _ he⟩, ⟨o, k it (by simp) o ho, r⟩, ne, le⟩
  item := by
    intro X hP hw hK hc i pins s σ H E I hf st hg
    subst hP hw hK
    obtain ⟨⟨old, he⟩, hit, ne, le⟩ := st
    have l1 : en < s.heap.objs.size := Heap.lt_size he
    have l2 : it < s.heap.objs.size := by
      obtain ⟨o, q, _⟩ := id hit
      exact Heap.lt_size q
    refine wpAny_pyNext_enum_itemD (draws_text (A := X.A.in1) (I.ok.hd hc) it z tk) he hit hg ne (by simpa using ne) fun x h1 t1 px ho hit1 hT hsz hk => ?_
    obtain ⟨c, u, hcz, rfl⟩ := px
    refine ⟨_, rfl, wpAny_letOwnedTupleGo_enum (s := { s with heap := h1, toks := t1 + 1 }) ho fun h2 he2 sb => ?_⟩
    have hT2 : h2.get? s.heap.objs.size = some { cls := .type "tuple", data := .seq #[.int i t1, .str ⟨#[c]⟩ u] } := (sb.2 _ (Nat.ne_of_gt l1)).trans hT
    have new : ObjOk X.prog X.w (upd H s.heap.objs.size (.tup [.int (i : Nat), .str ⟨#[c]⟩])) h2 s.heap.objs.size (.tup [.int (i : Nat), .str ⟨#[c]⟩]) :=
      ⟨by show 2 ≤ sizeLine; decide, [.int i t1, .str ⟨#[c]⟩ u], .cons ⟨_, rfl⟩ (.cons ⟨_, rfl⟩ .nil), ⟨_, hT2, rfl, _, rfl⟩⟩
    have I1 : Inv X pins σ (upd H s.heap.objs.size (.tup [.int (i : Nat), .str ⟨#[c]⟩])) { s with heap := h2, toks := t1 + 1 } :=
      I.turnedNew (ch := [en, it]) (fun b ob hb q => by
        simp only [List.mem_cons, List.mem_nil_iff, or_false, not_or] at hb
        exact (sb.2 b hb.1).trans (hk b ob hb.1 hb.2 q)) hf (Nat.le_refl _) new
    refine ⟨.ref s.heap.objs.size, _, I1, rfl, ⟨_, c, rfl, I.hok.fresh (Nat.le_refl _), hcz, rfl⟩, ⟨⟨.str ⟨#[c]⟩ u, ?_⟩, ?_, ne, hg⟩, fun b hb => ?_⟩
    · have e1 : ((i + 1 : Nat) : Int) = (i : Int) + 1 := by omega
      rw [e1]
      exact he2
    · obtain ⟨o, q, r⟩ := hit1
      exact ⟨o, (sb.2 it ne.symm).trans q, r⟩
    · have lb : b < s.heap.objs.size := by
        simp only [List.mem_cons, List.mem_nil_iff, or_false] at hb
        rcases hb with rfl | rfl
        · exact l1
        · exact l2
      rw [upd_ne (Nat.ne_of_lt lb)]
      exact (hf b hb).1
  done := by
    intro X hP hw hK hc i pins s σ H E I hf st hg
    subst hP hw hK
    obtain ⟨⟨old, he⟩, hit, ne, le⟩ := st
    obtain ⟨f0, f1, f2, f3, f4, f5⟩ := hf it (by simp)
    have ei : i = z.cps.size := Nat.le_antisymm le hg
    rw [ei] at hit
    exact wpAny_pyNext_enum_endD (draws_text (A := X.A.in1) (I.ok.hd hc) it z tk) he hit fun h' eb => ⟨rfl, I.turned (t' := s.toks) (fun b o hb q => eb b o hb q) f0 f1 f3 f4 f5⟩
  self := fun A i s Q E st h => by
    obtain ⟨⟨_, he⟩, _⟩ := st
    exact wpAny_pyIter_enum he h
def iEnumS (ta : TA) : TI := fun σ H R => ta σ H fun vs H1 => ∃ z, vs = [.str z] ∧ R (ItES z) H1
theorem pi_enumS {X : Cx} {e : Expr} {ta : TA} {p pos tpos : Pos} {elts : List Expr} {kk : Nat} (hg : Gl X "enumerate") (hm : X.mg "enumerate" = none) (ha : PA X [e] ta) (hs : starEach [e] X.env = [(false, eval e X.env)] := by rfl) :
    PI X (.Tuple elts kk tpos) (.Call (.Name "enumerate" p) [e] [] pos) (iEnumS ta) := by
  refine ⟨fun pins s σ H R I h => Call_ (ld_blt I hg hm boot_enumerate (PyProof.Rows.callWith_type1 (thn (ha.run pos pins s σ H _ I h) fun us s1 ⟨vs, H1, I1, r1, q1⟩ => ?_) hs rfl))⟩
  obtain ⟨z, rfl, q⟩ := q1
  cases r1 with
  | cons r rr =>
    cases rr
    obtain ⟨tk, rfl⟩ := r
    refine call_enumerate_str fun h1 he hit hsz hk => wpAny_pyIter_enum he ?_
    have I2 : Inv X pins σ H1 { s1 with heap := h1 } := I1.kept (t' := s1.toks) hk
    refine ⟨s1.heap.objs.size + 1, [s1.heap.objs.size + 1, s1.heap.objs.size], _, _, H1, rfl, I2, turn_enumS z tk (s1.heap.objs.size + 1) s1.heap.objs.size, ⟨⟨.none, he⟩, hit, Nat.succ_ne_self _, Nat.zero_le _⟩, fun b hb => ?_, q⟩
    have le : s1.heap.objs.size ≤ b := by
      simp only [List.mem_cons, List.mem_nil_iff, or_false] at hb
      rcases hb with rfl | rfl
      · exact Nat.le_add_right _ _
      · exact Nat.le_refl _
    exact I1.fpOk le (I1.hok.fresh le)
theorem walk_enumS {z : Str} : L2.Walk (ItES z) z.cps.size (fun _ => True) (fun i H v H' => ∃ T c, v = .ref T ∧ H T = none ∧ z.cps[i]? = some c ∧ H' = L2.upd H T (.tup [.int (i : Nat), .str ⟨#[c]⟩])) :=
  ⟨fun i H h _ => h, fun H _ => Nat.le_refl _, fun i H x H2 _ _ y => y⟩
end Gs

set_option Elab.async false
set_option linter.all false
set_option maxRecDepth 100000
set_option maxHeartbeats 4000000
namespace Gs
open PySem L2
/-! ### boxes -/
structure Bx where
  r : Int
  c : Int
  h : Int
  w : Int
def boxL (b : Bx) : List V := [.int b.r, .int b.c, .int b.h, .int b.w]
def boxD (b : Bx) : PyData := .tuple [.int b.r, .int b.c, .int b.h, .int b.w]
/-- the common cells -/
def shM (a b : Bx) : Bx := ⟨if b.r > a.r then b.r else a.r, if b.c > a.c then b.c else a.c,
  (if b.r + b.h < a.r + a.h then b.r + b.h else a.r + a.h) - (if b.r > a.r then b.r else a.r), (if b.c + b.w < a.c + a.w then b.c + b.w else a.c + a.w) - (if b.c > a.c then b.c else a.c)⟩
def shNo (a b : Bx) : Prop := (shM a b).h < 1 ∨ (shM a b).w < 1
instance (a b : Bx) : Decidable (shNo a b) := by unfold shNo; infer_instance
def spShared : Sp := fun vs H Q _ => ∃ (p q : Addr) (a b : Bx), vs = [.ref p, .ref q] ∧ H p = some (.tup (boxL a)) ∧ H q = some (.tup (boxL b)) ∧
  (shNo a b → Q .non H) ∧ (¬ shNo a b → ∀ t, H t = none → Q (.ref t) (upd H t (.tup (boxL (shM a b)))))
def spMeet : Sp := fun vs H Q _ => ∃ (p q : Addr) (a b : Bx), vs = [.ref p, .ref q] ∧ H p = some (.tup (boxL a)) ∧ H q = some (.tup (boxL b)) ∧ ∀ H', Same H H' → Q (.bl (!decide (shNo a b))) H'
def spHas : Sp := fun vs H Q _ => ∃ (p : Addr) (a : Bx) (i j : Int), vs = [.ref p, .int i, .int j] ∧ H p = some (.tup (boxL a)) ∧ ∀ H', Same H H' → Q (.bl (!decide (shNo a ⟨i, j, 1, 1⟩))) H'
def inB (b : Bx) (y x : Int) : Prop := (b.r ≤ y ∧ y < b.r + b.h) ∧ (b.c ≤ x ∧ x < b.c + b.w)
instance (b : Bx) (y x : Int) : Decidable (inB b y x) := by unfold inB; infer_instance
theorem has_in (b : Bx) (y x : Int) : (!decide (shNo b ⟨y, x, 1, 1⟩)) = decide (inB b y x) := by
  have : shNo b ⟨y, x, 1, 1⟩ ↔ ¬ inB b y x := by
    unfold shNo inB shM
    simp only
    constructor
    · intro h
      split at h <;> split at h <;> split at h <;> split at h <;> omega
    · intro h
      split <;> split <;> split <;> split <;> omega
  by_cases h : inB b y x
  · rw [decide_eq_true h, decide_eq_false (fun z => this.mp z h)]
    rfl
  · rw [decide_eq_false h, decide_eq_true (this.mpr h)]
    rfl
theorem sh_within {b : Bx} {n m : Int} (h1 : 0 ≤ b.r) (h2 : 0 ≤ b.c) (h3 : 1 ≤ b.h) (h4 : 1 ≤ b.w) (h5 : b.r + b.h ≤ n) (h6 : b.c + b.w ≤ m) : shM b ⟨0, 0, n, m⟩ = b ∧ ¬ shNo b ⟨0, 0, n, m⟩ := by
  have e : shM b ⟨0, 0, n, m⟩ = b := by
    unfold shM
    simp only
    rw [if_neg (by omega), if_neg (by omega)]
    cases b
    simp only at *
    congr 1
    · split <;> omega
    · split <;> omega
  refine ⟨e, ?_⟩
  unfold shNo
  rw [e]
  omega
/-! ### drawings -/
def Rect (n m : Nat) (rows : List Str) : Prop := rows.length = n ∧ ∀ r ∈ rows, r.length = m
def chM (rows : List Str) (y x : Nat) : Str := ⟨#[((rows.getD y "").cps.toList).getD x 0]⟩
inductive Stp where
  | put (v u : Int) (t : Str)
  | shift (v u h w d a : Int)
def stepL : Stp → List V
  | .put v u t => [.str "put", .int v, .int u, .str t]
  | .shift v u h w d a => [.str "shift", .int v, .int u, .int h, .int w, .int d, .int a]
def stepD : Stp → PyData
  | .put v u t => .tuple [.str "put", .int v, .int u, .str t]
  | .shift v u h w d a => .tuple [.str "shift", .int v, .int u, .int h, .int w, .int d, .int a]
def wpM (row : Str) (u : Int) (t : Str) : Str := cutS row none (some u) ++ t ++ cutS row (some (u + t.length)) none
def putRM (rows : List Str) (v u : Int) (t : Str) : List Str := rows.set v.toNat (wpM (rows.getD v.toNat "") u t)
def mvM (b : Bx) (d a : Int) (v u : Nat) : Prop := inB b v u ∧ inB b (v + d) (u + a)
instance (b : Bx) (d a : Int) (v u : Nat) : Decidable (mvM b d a v u) := by unfold mvM; infer_instance
def sgM (rows : List Str) (b : Bx) (d a : Int) (v u : Nat) : Str := if mvM b d a v u then chM rows ((v : Int) + d).toNat ((u : Int) + a).toNat else chM rows v u
def lnM (rows : List Str) (b : Bx) (d a : Int) (v m : Nat) : Str := Txt.join "" ((List.range m).map fun u => sgM rows b d a v u)
def shfM (rows : List Str) (b : Bx) (d a : Int) (n m : Nat) : List Str := (List.range n).map fun v => lnM rows b d a v m
def stpM (n m : Nat) (rows : List Str) : Stp → List Str
  | .put v u t => putRM rows v u t
  | .shift v u h w d a => shfM rows ⟨v, u, h, w⟩ d a n m
def goodSt (n m : Nat) : Stp → Prop
  | .put v u t => 0 ≤ v ∧ v < n ∧ 0 ≤ u ∧ u + t.length ≤ m
  | .shift v u h w d a => 0 ≤ v ∧ 0 ≤ u ∧ 1 ≤ h ∧ 1 ≤ w ∧ v + h ≤ n ∧ u + w ≤ m
theorem cut_all (x : Str) : cutS x none (some (x.length : Int)) = x := by
  refine str_ext ?_
  unfold cutS
  have e2 : HT.sIx x.length x.length (some (x.length : Int)) = x.length := by
    rw [HT.sIx_nat]
    exact Nat.min_self _
  rw [e2]
  show List.take (x.length - 0) (List.drop 0 x.cps.toList) = x.cps.toList
  rw [List.drop_zero, Nat.sub_zero, ← len_toList, List.take_length]
theorem cut_len0 {x : Str} {u : Int} (h0 : 0 ≤ u) (h1 : u ≤ x.length) : ((cutS x none (some u)).length : Int) = u := by
  rw [← len_toList]
  unfold cutS
  have e2 : HT.sIx x.length x.length (some u) = min u.toNat x.length := by
    show (if u < 0 then (u + (x.length : Int)).toNat else min u.toNat x.length) = _
    rw [if_neg (by omega)]
  rw [e2]
  show ((List.take (min u.toNat x.length - 0) (List.drop 0 x.cps.toList)).length : Int) = u
  rw [List.drop_zero, List.length_take, len_toList]
  omega
theorem cut_len1 {x : Str} {u : Int} (h0 : 0 ≤ u) (h1 : u ≤ x.length) : ((cutS x (some u) none).length : Int) = x.length - u := by
  rw [← len_toList]
  unfold cutS
  have e1 : HT.sIx x.length 0 (some u) = min u.toNat x.length := by
    show (if u < 0 then (u + (x.length : Int)).toNat else min u.toNat x.length) = _
    rw [if_neg (by omega)]
  rw [e1]
  show ((List.take (x.length - min u.toNat x.length) (List.drop (min u.toNat x.length) x.cps.toList)).length : Int) = _
  rw [List.length_take, List.length_drop, len_toList]
  omega
theorem wp_len {row t : Str} {u : Int} (h0 : 0 ≤ u) (h1 : u + t.length ≤ row.length) : (wpM row u t).length = row.length := by
  unfold wpM
  rw [PySem.Str.length_append, PySem.Str.length_append]
  have a := cut_len0 (x := row) h0 (by omega)
  have b := cut_len1 (x := row) (u := u + t.length) (by omega) h1
  omega
theorem one_char {rows : List Str} {y x : Nat} {r : Str} {c : Nat} (h1 : rows[y]? = some r) (h2 : r.cps.toList[x]? = some c) : chM rows y x = ⟨#[c]⟩ := by
  unfold chM
  have e : rows.getD y "" = r := by
    rw [List.getD_eq_getElem?_getD, h1]
    rfl
  rw [e, List.getD_eq_getElem?_getD, h2]
  rfl
theorem sg_one (rows : List Str) (b : Bx) (d a : Int) (v u : Nat) : (sgM rows b d a v u).length = 1 := by
  unfold sgM
  split <;> rfl
theorem ln_len (rows : List Str) (b : Bx) (d a : Int) (v m : Nat) : (lnM rows b d a v m).length = m := by
  unfold lnM
  rw [join_len]
  · rw [List.length_map, List.length_range]
  · intro y hy
    obtain ⟨u, _, e⟩ := List.mem_map.mp hy
    rw [← e]
    exact sg_one _ _ _ _ _ _
theorem join_snoc (ys : List Str) (y : Str) : Txt.join "" (ys ++ [y]) = Txt.join "" ys ++ y := by
  show Builtin.Str.glued "" (ys ++ [y]) = Builtin.Str.glued "" ys ++ y
  rw [StrLaws.glued_eq_join, StrLaws.glued_eq_join]
  induction ys with
  | nil =>
    show y = Str.empty ++ y
    rw [PySem.Str.empty_append]
  | cons x r ih =>
    cases r with
    | nil =>
      show x ++ "" ++ y = x ++ y
      refine str_ext ?_
      rw [app_toList, app_toList, app_toList]
      show x.cps.toList ++ [] ++ _ = _
      rw [List.append_nil]
    | cons z r =>
      show x ++ "" ++ Str.join "" ((z :: r) ++ [y]) = x ++ "" ++ Str.join "" (z :: r) ++ y
      rw [ih]
      refine str_ext ?_
      simp only [app_toList, List.append_assoc]
theorem ln_snoc (rows : List Str) (b : Bx) (d a : Int) (v m : Nat) : lnM rows b d a v (m + 1) = lnM rows b d a v m ++ sgM rows b d a v m := by
  unfold lnM
  rw [List.range_succ, List.map_append]
  exact join_snoc _ _
theorem rect_put {n m : Nat} {rows : List Str} {v u : Int} {t : Str} (R : Rect n m rows) (g : goodSt n m (.put v u t)) : Rect n m (putRM rows v u t) := by
  obtain ⟨h1, h2, h3, h4⟩ := g
  unfold putRM
  refine ⟨by rw [List.length_set]; exact R.1, fun r hr => ?_⟩
  have hk : v.toNat < rows.length := by rw [R.1]; omega
  rcases List.mem_or_eq_of_mem_set hr with q | q
  · exact R.2 r q
  · have hm := R.2 rows[v.toNat] (List.getElem_mem hk)
    rw [q, List.getD_eq_getElem?_getD, List.getElem?_eq_getElem hk]
    show (wpM rows[v.toNat] u t).length = m
    rw [wp_len h3 (by rw [hm]; exact h4)]
    exact hm
theorem rect_shf {n m : Nat} {rows : List Str} {b : Bx} {d a : Int} : Rect n m (shfM rows b d a n m) := by
  unfold shfM
  refine ⟨by rw [List.length_map, List.length_range], fun r hr => ?_⟩
  obtain ⟨v, _, e⟩ := List.mem_map.mp hr
  rw [← e]
  exact ln_len _ _ _ _ _ _
theorem rect_stp {n m : Nat} {rows : List Str} {s : Stp} (R : Rect n m rows) (g : goodSt n m s) : Rect n m (stpM n m rows s) := by
  cases s with
  | put v u t => exact rect_put R g
  | shift v u h w d a => exact rect_shf
theorem rect_steps {n m : Nat} : ∀ {ss : List Stp} {rows : List Str}, Rect n m rows → (∀ s ∈ ss, goodSt n m s) → Rect n m (ss.foldl (stpM n m) rows)
  | [], _, R, _ => R
  | s :: r, _, R, g => rect_steps (ss := r) (rect_stp R (g s List.mem_cons_self)) fun q hq => g q (List.mem_cons_of_mem _ hq)
def StpAt (H : Hp) (xs : List V) (ss : List Stp) : Prop := Paired (fun (v : V) (s : Stp) => ∃ t, v = .ref t ∧ H t = some (.tup (stepL s))) xs ss
theorem StpAt.mono {H H' : Hp} (s : TupSame H H') : ∀ {xs : List V} {cs : List Stp}, StpAt H xs cs → StpAt H' xs cs
  | _, _, .nil => .nil
  | _, _, .cons ⟨t, e, h⟩ r => .cons ⟨t, e, s _ _ h⟩ (StpAt.mono s r)
theorem StpAt.append {H : Hp} : ∀ {xs ys : List V} {cs ds : List Stp}, StpAt H xs cs → StpAt H ys ds → StpAt H (xs ++ ys) (cs ++ ds)
  | _, _, _, _, .nil, s => s
  | _, _, _, _, .cons a r, s => .cons a (StpAt.append r s)
theorem StpAt.len {H : Hp} : ∀ {xs : List V} {cs : List Stp}, StpAt H xs cs → xs.length = cs.length
  | _, _, .nil => rfl
  | _, _, .cons _ r => by simp [StpAt.len r]
theorem StpAt.at_ {H : Hp} : ∀ {xs : List V} {cs : List Stp} {n : Nat} {v : V}, StpAt H xs cs → xs[n]? = some v → ∃ s t, cs[n]? = some s ∧ v = .ref t ∧ H t = some (.tup (stepL s))
  | _, _, _, _, .nil, e => by simp at e
  | _, _, 0, v, .cons ⟨t, e, h⟩ _, q => by
    simp at q
    subst q
    exact ⟨_, t, rfl, e, h⟩
  | _, _, n + 1, _, .cons _ r, q => by simpa using StpAt.at_ (n := n) r (by simpa using q)
theorem StpAt.dp {K : PySem.W.Frag} {H : Hp} : ∀ {xs : List V} {cs : List Stp}, StpAt H xs cs → DpAll K H xs (cs.map stepD)
  | _, _, .nil => .nil
  | _, _, .cons (b := s) ⟨t, e, h⟩ r => by
    subst e
    refine .cons ?_ (StpAt.dp r)
    cases s with
    | put v u x => exact .tup (SqT.of h) (.cons (.str _) (.cons (.int _) (.cons (.int _) (.cons (.str _) .nil))))
    | shift v u a b c d => exact .tup (SqT.of h) (.cons (.str _) (.cons (.int _) (.cons (.int _) (.cons (.int _) (.cons (.int _) (.cons (.int _) (.cons (.int _) .nil)))))))
def spWithPut : Sp := fun vs H Q _ => ∃ (row : Str) (u : Int) (t : Str), vs = [.str row, .int u, .str t] ∧ row.length ≤ 400 ∧ 0 ≤ u ∧ u + t.length ≤ row.length ∧ Q (.str (wpM row u t)) H
def spBPut : Sp := fun vs H Q _ => ∃ (l : Addr) (v u : Int) (t : Str) (rows : List Str) (n m : Nat), vs = [.ref l, .int v, .int u, .str t] ∧ H l = some (.lst (rows.map V.str)) ∧ Rect n m rows ∧ n ≤ 400 ∧ m ≤ 400 ∧ goodSt n m (.put v u t) ∧
  ∀ (p : Addr) (H' : Hp), Same H H' → H' p = some (.lst ((putRM rows v u t).map V.str)) → Q (.ref p) H'
def spBShift : Sp := fun vs H Q _ => ∃ (l bx : Addr) (b : Bx) (d a : Int) (rows : List Str) (n m : Nat), vs = [.ref l, .ref bx, .int d, .int a] ∧ H l = some (.lst (rows.map V.str)) ∧ H bx = some (.tup (boxL b)) ∧ Rect n m rows ∧ n ≤ 400 ∧ m ≤ 400 ∧ goodSt n m (.shift b.r b.c b.h b.w d a) ∧
  ∀ (p : Addr) (H' : Hp), Same H H' → H' p = some (.lst ((shfM rows b d a n m).map V.str)) → Q (.ref p) H'
def spSteps : Sp := fun vs H Q _ => ∃ (l k : Addr) (rows : List Str) (xs : List V) (ss : List Stp) (n m : Nat), vs = [.ref l, .ref k] ∧ H l = some (.lst (rows.map V.str)) ∧ H k = some (.lst xs) ∧ StpAt H xs ss ∧ Rect n m rows ∧ 1 ≤ n ∧ n ≤ 400 ∧ m ≤ 400 ∧ (∀ s ∈ ss, goodSt n m s) ∧ ss.length ≤ 100000 ∧
  ∀ (p : Addr) (H' : Hp), Same H H' → H' p = some (.lst ((ss.foldl (stpM n m) rows).map V.str)) → Q (.ref p) H'
def spStepOn : Sp := fun vs H Q _ => ∃ (l k : Addr) (rows : List Str) (s : Stp) (n m : Nat), vs = [.ref l, .ref k] ∧ H l = some (.lst (rows.map V.str)) ∧ H k = some (.tup (stepL s)) ∧ Rect n m rows ∧ 1 ≤ n ∧ n ≤ 400 ∧ m ≤ 400 ∧ goodSt n m s ∧
  ∀ (p : Addr) (H' : Hp), Same H H' → H' p = some (.lst ((stpM n m rows s).map V.str)) → Q (.ref p) H'
theorem fold_snoc (n m : Nat) (rows : List Str) (ss : List Stp) {j : Nat} {s : Stp} (h : ss[j]? = some s) : (ss.take (j + 1)).foldl (stpM n m) rows = stpM n m ((ss.take j).foldl (stpM n m) rows) s := by
  rw [List.take_add_one, h]
  simp
theorem pg_tupK {X : Cx} {K : PySem.W.Frag} {pos : Pos} {es : List Expr} {k : Nat} {t : TGs} {n : Nat} (hK : X.K = K) (hc : X.calm = true) (h : PGs X es t)
    (hn : (assignEach es X.env).length = n := by rfl) (hst : (assignEach es X.env).findIdx? (·.1) = none := by rfl) : PG X (.Tuple es k pos) (gTup K n t) := by
  subst hK
  exact pg_tup hc h hn hst
theorem str_at {z : Str} {i : Int} {n : Nat} (h0 : 0 ≤ i) (h1 : i < n) (hn : z.length = n) : ∃ c, z.cps.toList[i.toNat]? = some c ∧ atI z.cps.toList i = some c := by
  have hk : i.toNat < z.cps.toList.length := by rw [len_toList]; omega
  refine ⟨z.cps.toList[i.toNat], List.getElem?_eq_getElem hk, ?_⟩
  have e : i = ((i.toNat : Nat) : Int) := by omega
  have := atI_nat (xs := z.cps.toList) (j := i.toNat) (List.getElem?_eq_getElem hk)
  rw [← e] at this
  exact this
theorem strs_at {rows : List Str} {i : Int} {n : Nat} (h0 : 0 ≤ i) (h1 : i < n) (hn : rows.length = n) : ∃ r, rows[i.toNat]? = some r ∧ r ∈ rows ∧ atI (rows.map V.str) i = some (.str r) := by
  have hk : i.toNat < rows.length := by omega
  refine ⟨rows[i.toNat], List.getElem?_eq_getElem hk, List.getElem_mem hk, ?_⟩
  exact at_of (j := i.toNat) (by omega) (by rw [List.getElem?_map, List.getElem?_eq_getElem hk]; rfl)
end Gs
namespace Gs
open PySem L2
theorem cutV_take {xs : List V} {k : Int} (h0 : 0 ≤ k) (h1 : k ≤ (xs.length : Int)) : cutV xs none (some k) = xs.take k.toNat := by
  have e : HT.sIx xs.length xs.length (some k) = k.toNat := by
    show (if k < 0 then (k + (xs.length : Int)).toNat else min k.toNat xs.length) = _
    rw [if_neg (by omega)]
    omega
  show (xs.drop 0).take (HT.sIx xs.length xs.length (some k) - 0) = _
  rw [e, List.drop_zero, Nat.sub_zero]
theorem cutV_drop {xs : List V} {k : Int} (h0 : 0 ≤ k) (h1 : k ≤ (xs.length : Int)) : cutV xs (some k) none = xs.drop k.toNat := by
  have e : HT.sIx xs.length 0 (some k) = k.toNat := by
    show (if k < 0 then (k + (xs.length : Int)).toNat else min k.toNat xs.length) = _
    rw [if_neg (by omega)]
    omega
  show (xs.drop (HT.sIx xs.length 0 (some k))).take (xs.length - HT.sIx xs.length 0 (some k)) = _
  rw [e]
  exact List.take_of_length_le (by rw [List.length_drop]; exact Nat.le_refl _)
theorem put_parts {n m : Nat} {rows : List Str} {v u : Int} {t r : Str} (R : Rect n m rows) (g : goodSt n m (.put v u t)) (hr : rows[v.toNat]? = some r) :
    cutV (rows.map V.str) none (some v) ++ [.str (wpM r u t)] ++ cutV (rows.map V.str) (some (v + 1)) none = (putRM rows v u t).map V.str := by
  obtain ⟨g1, g2, _, _⟩ := g
  have Rl := R.1
  have hk : v.toNat < rows.length := by omega
  have hk2 : v.toNat < (rows.map V.str).length := by rw [List.length_map]; exact hk
  rw [cutV_take g1 (by rw [List.length_map]; omega), cutV_drop (by omega) (by rw [List.length_map]; omega)]
  unfold putRM
  have e : rows.getD v.toNat "" = r := by
    rw [List.getD_eq_getElem?_getD, hr]
    rfl
  rw [e, List.map_set, List.set_eq_take_append_cons_drop, if_pos hk2, show (v + 1).toNat = v.toNat + 1 by omega]
  simp
end Gs
namespace Gs
open PySem L2
def okStp : Stp → Prop
  | .put _ _ t => OkS t
  | .shift .. => True
theorem stp_lay : ∀ ss : List Stp, (∀ s ∈ ss, okStp s) → PyData.canLayAll0 (ss.map stepD) = true ∧ PyData.depthAll (ss.map stepD) ≤ 1
  | [], _ => by simp [PyData.canLayAll0, PyData.depthAll]
  | s :: r, h => by
    obtain ⟨h1, h2⟩ := stp_lay r fun q hq => h q (List.mem_cons_of_mem _ hq)
    have hs := h s List.mem_cons_self
    have p1 : PyData.strOk "put" = true := by decide +kernel
    have p2 : PyData.strOk "shift" = true := by decide +kernel
    cases s with
    | put v u t =>
      have ht := OkS.ok hs
      constructor
      · simp [stepD, PyData.canLay0, PyData.canLayAll0, p1, ht] at h1 ⊢
        exact h1
      · simp only [List.map_cons, stepD, PyData.depthAll, PyData.depth]
        omega
    | shift v u a b c d =>
      constructor
      · simp [stepD, PyData.canLay0, PyData.canLayAll0, p2] at h1 ⊢
        exact h1
      · simp only [List.map_cons, stepD, PyData.depthAll, PyData.depth]
        omega
theorem handed_shaped {rows : List Str} {ss : List Stp} (h1 : ∀ r ∈ rows, OkS r) (h2 : ∀ s ∈ ss, okStp s) : SeqAt.shaped (.list [.list (rows.map PyData.str), .list (ss.map stepD)]) = true := by
  obtain ⟨a1, a2⟩ := strs_lay rows h1
  obtain ⟨b1, b2⟩ := stp_lay ss h2
  unfold SeqAt.shaped
  rw [Bool.and_eq_true]
  constructor
  · simp only [PyData.canLay0, PyData.canLayAll0, a1, b1, Bool.and_self]
  · refine decide_eq_true ?_
    simp only [PyData.depth, PyData.depthAll]
    omega
theorem xyz_len : ("xyz" : Str).length = 3 := by decide +kernel
theorem sum_ones : ∀ zs : List Str, (∀ y ∈ zs, y.length = 1) → (zs.map (·.length)).sum = zs.length := fun zs => by
  induction zs with
  | nil => intro _; rfl
  | cons u r ih =>
    intro hz
    simp only [List.map_cons, List.sum_cons, List.length_cons]
    rw [ih fun y hy => hz y (List.mem_cons_of_mem _ hy), hz u List.mem_cons_self]
    omega
theorem mt_joinK {X : Cx} {K : PySem.W.Frag} (h : X.K = K) : L2.MtR X "str.join" (fun x xs H Q => ∃ a p, ∃ ys : List Str, x = .str a ∧ xs = [.ref p] ∧ (SqL K H p (ys.map V.str) ∨ SqT K H p (ys.map V.str)) ∧ (ys.map (·.length)).sum + ys.length * a.length ≤ 16777216 ∧ Q (.str (Txt.join a ys)) H) := by
  subst h
  exact mt_join
end Gs

set_option Elab.async false
set_option linter.all false
set_option maxRecDepth 100000
set_option maxHeartbeats 4000000
namespace K27
open PySem L2 Gs
def top (i : Nat) : Stmt := PySem.Challenge.pw_gridscope_k27_steps_done_on_drawings.main.body.getD i (.Pass ⟨0, 0, 0, 0⟩)
structure Tx (K : PySem.W.Frag) (mg : Str → Option Value) (tP : Tok) : Prop where
  no_max : mg "max" = none
  no_min : mg "min" = none
  no_len : mg "len" = none
  no_list : mg "list" = none
  no_isinstance : mg "isinstance" = none
  no_bool : mg "bool" = none
  no_int : mg "int" = none
  no_str : mg "str" = none
  no_tuple : mg "tuple" = none
  no_range : mg "range" = none
  no_all : mg "all" = none
  no_sum : mg "sum" = none
  no_sorted : mg "sorted" = none
  no_any : mg "any" = none
  no_dict : mg "dict" = none
  no_repr : mg "repr" = none
  no_enumerate : mg "enumerate" = none
  mg_PUT : mg "PUT" = some (.str "put" tP)
section
variable {P : Program} {w : World} {K : PySem.W.Frag} {mg : Str → Option Value} {base : Heap} {f : Addr} {fd : FuncData} {tP : Tok}
-- pick
abbrev s_pick : Stmt := top 11
theorem sc_pick : FnScope ["_law_draw", "_law_many", "_law_cell", "_law_got"] ["_law_draw", "_law_many"] (defScope s_pick) := ⟨rfl, rfl, rfl, by decide +kernel, rfl, by decide +kernel, by decide +kernel⟩
theorem ok_pickL (F : Fun K "_law_pick" "_law_pick" s_pick f fd) (T : Tx K mg tP) : FnOk P w K mg base CX0 1 f fd ["_law_draw", "_law_many"] spPickL := by
  refine F.ok sc_pick (fun vs H Q E h => ?_) (fun cdv A outer s H vs Q E hr h => ?_)
  · obtain ⟨a, l, many, rfl, _⟩ := h
    rfl
  · obtain ⟨a, l, many, rfl, D, m1, m2, k⟩ := h
    refine ⟨_, (C8.pss_cut (ps_if (PW.pt (pw_and (pt_cmpR op_lt (pe_ix ix_list (pv 0) pe_int (fun _ _ => rfl)) (pv 1) (nomark _)) (pw_and1 (pt_cmpR op_lt (pe_ix ix_list (pv 0) pe_int (fun _ _ => rfl)) (pe_callB call_len_seq (by rfl) T.no_len (by decide +kernel) (pa_cons (pe_ix ix_list (pv 0) pe_int (fun _ _ => rfl)) pa_nil)) (nomark _))))) (pss_cons (ps_set (i := 2) sc_pick.nd rfl (.inl rfl) (pe_ix ix_list (pe_ix ix_list (pv 0) pe_int (fun _ _ => rfl)) (pe_ix ix_list (pv 0) pe_int (fun _ _ => rfl)) (fun _ _ => rfl)))
        (pss_cons (ps_asg (pe_op op_add (pe_ix ix_list (pv 0) pe_int (fun _ _ => rfl)) pe_int) (pg_sub (pv 0) pe_int set_list))
        (pss_cons (ps_asg pe_int (pg_sub (pv 0) pe_int set_list))
        (pss_one (ps_if (pt_cmpR op_ge (pv 2) (pe_op op_pow pe_int pe_int) (nomark _)) (pss_one (ps_asg (pv 2) (pg_sub (pv 0) pe_int set_list))) (pss_one (ps_asg (pe_op op_mod (pe_op op_add (pe_ix ix_list (pv 0) pe_int (fun _ _ => rfl)) (pv 2)) pe_int) (pg_sub (pv 0) pe_int set_list)))))))) pss_nil)
      (pss_cons (ps_if (pt_cmpR op_ge (pe_ix ix_list (pv 0) pe_int (fun _ _ => rfl)) (pv 1) (nomark _)) (pss_cons (ps_set (i := 3) sc_pick.nd rfl (.inl rfl) (pe_op op_mod (pe_ix ix_list (pv 0) pe_int (fun _ _ => rfl)) (pv 1)))
        (pss_cons (ps_asg (pe_op op_fdiv (pe_ix ix_list (pv 0) pe_int (fun _ _ => rfl)) (pv 1)) (pg_sub (pv 0) pe_int set_list))
        (pss_one (ps_ret (pv 3))))) pss_nil)
      (pss_cons (ps_asg (pe_op op_add (pe_ix ix_list (pv 0) pe_int (fun _ _ => rfl)) pe_int) (pg_sub (pv 0) pe_int set_list))
      (pss_cons (ps_asg (pe_op op_mod (pe_op op_add (pe_op op_add (pe_op op_pow (pe_ix ix_list (pv 0) pe_int (fun _ _ => rfl)) pe_int) (pe_op op_mul pe_int (pe_ix ix_list (pv 0) pe_int (fun _ _ => rfl)))) pe_int) pe_int) (pg_sub (pv 0) pe_int set_list))
      (pss_one (ps_ret (pe_op op_mod (pe_op op_fdiv (pe_ix ix_list (pv 0) pe_int (fun _ _ => rfl)) pe_int) (pv 1)))))))), ?_⟩
    refine ⟨fun σ H1 => (∃ x y, σ = [some (.ref a), some (.int many), x, y]) ∧ DrawL H1 a l ∧ (∀ b, b ≠ a → H1 b = H b), ?_, ?_⟩
    · obtain ⟨ns, i, left, seed, n, h1, h2, hi, hs0, hs1⟩ := D
      have hl : l ≠ a := DrawAt.ne h1 h2
      refine ⟨_, rfl, _, _, _, _, rfl, rfl, SqL.of h1, atI_nat (j := 2) rfl, _, rfl, _, _, rfl, rfl, _, rfl, ?_⟩
      refine ite2 (fun c => ?_) (fun c => ?_)
      · refine ⟨_, rfl, _, _, _, _, rfl, rfl, SqL.of h1, atI_nat (j := 1) rfl, _, rfl, _, _, _, _, rfl, rfl, SqL.of h1, atI_nat (j := 0) rfl, _, _, rfl, .inl (SqL.of h2), _, _, rfl, rfl, _, rfl, ?_⟩
        refine ite2 (fun c => ?_) (fun c => ?_)
        · have c' : i < (((ns.map V.int).length : Nat) : Int) := of_decide_eq_true c
          rw [List.length_map] at c'
          have hk : i.toNat < ns.length := by omega
          have ek : i = ((i.toNat : Nat) : Int) := by omega
          have hat : atI (ns.map V.int) i = some (.int ns[i.toNat]) := by
            exact at_of ek (by rw [List.getElem?_map, List.getElem?_eq_getElem hk] <;> rfl)
          have g2 : ∀ o, upd H a o l = some (.lst (ns.map V.int)) := fun o => by rw [upd_ne hl]; exact h2
          refine ⟨_, rfl, _, _, _, _, rfl, rfl, SqL.of h1, atI_nat (j := 0) rfl, _, rfl, _, _, _, _, rfl, rfl, SqL.of h1, atI_nat (j := 1) rfl, _, _, _, _, rfl, rfl, SqL.of h2, hat, ?_⟩
          refine ⟨_, rfl, _, _, _, _, rfl, rfl, SqL.of h1, atI_nat (j := 1) rfl, _, _, rfl, rfl, _, rfl, _, _, _, 1, rfl, rfl, h1, rfl, ?_⟩
          refine ⟨_, rfl, _, _, _, 2, rfl, rfl, upd_same, rfl, ?_⟩
          rw [upd_upd]
          refine ⟨_, rfl, _, _, rfl, rfl, ⟨by decide, by decide, by decide⟩, _, _, rfl, rfl, _, rfl, ?_⟩
          refine ite2 (fun c => ?_) (fun c => ?_)
          · refine ⟨_, rfl, _, rfl, _, _, _, 2, rfl, rfl, upd_same, rfl, ?_⟩
            rw [upd_upd]
            exact ⟨⟨_, _, rfl⟩, ⟨ns, i + 1, ns[i.toNat], seed, n, upd_same, g2 _, by omega, hs0, hs1⟩, fun b hb => upd_ne hb⟩
          · refine ⟨_, rfl, _, _, _, _, rfl, rfl, SqL.of upd_same, atI_nat (j := 3) rfl, _, rfl, _, _, rfl, rfl, _, _, rfl, rfl, (by show (0 : Int) < 1000000007; decide), _, rfl, _, _, _, 3, rfl, rfl, upd_same, rfl, ?_⟩
            rw [upd_upd]
            exact ⟨⟨_, _, rfl⟩, ⟨ns, i + 1, 0, _, n, upd_same, g2 _, by omega, Int.emod_nonneg _ (by decide), Int.emod_lt_of_pos _ (by decide)⟩, fun b hb => upd_ne hb⟩
        · exact ⟨⟨_, _, rfl⟩, ⟨ns, i, left, seed, n, h1, h2, hi, hs0, hs1⟩, fun b hb => rfl⟩
      · exact ⟨⟨_, _, rfl⟩, ⟨ns, i, left, seed, n, h1, h2, hi, hs0, hs1⟩, fun b hb => rfl⟩
    · rintro σ H1 ⟨⟨x, y, rfl⟩, D1, fr⟩
      obtain ⟨ns, i, left, seed, n, h1, h2, hi, hs0, hs1⟩ := D1
      have hl : l ≠ a := DrawAt.ne h1 h2
      have g2 : ∀ o, upd H1 a o l = some (.lst (ns.map V.int)) := fun o => by rw [upd_ne hl]; exact h2
      have g3 : ∀ o b, b ≠ a → upd H1 a o b = H b := fun o b hb => by rw [upd_ne hb]; exact fr b hb
      refine ⟨_, rfl, _, _, _, _, rfl, rfl, SqL.of h1, atI_nat (j := 2) rfl, _, rfl, _, _, rfl, rfl, _, rfl, ?_⟩
      refine ite2 (fun c => ?_) (fun c => ?_)
      · refine ⟨_, rfl, _, _, _, _, rfl, rfl, SqL.of h1, atI_nat (j := 2) rfl, _, rfl, _, _, rfl, rfl, (show (0 : Int) < many by omega), ?_⟩
        refine ⟨_, rfl, _, _, _, _, rfl, rfl, SqL.of h1, atI_nat (j := 2) rfl, _, rfl, _, _, rfl, rfl, ⟨by omega, by omega⟩, _, rfl, _, _, _, 2, rfl, rfl, h1, rfl, ?_⟩
        refine ⟨_, rfl, ?_⟩
        exact k _ _ (Int.emod_nonneg _ (by omega)) (Int.emod_lt_of_pos _ (by omega)) ⟨ns, i, _, seed, n, upd_same, g2 _, hi, hs0, hs1⟩ (g3 _)
      · refine ⟨_, rfl, _, _, _, _, rfl, rfl, SqL.of h1, atI_nat (j := 4) rfl, _, _, rfl, rfl, _, rfl, _, _, _, 4, rfl, rfl, h1, rfl, ?_⟩
        refine ⟨_, rfl, _, _, _, _, rfl, rfl, SqL.of upd_same, atI_nat (j := 3) rfl, _, _, rfl, rfl, ⟨by decide, by decide, by omega⟩, _, rfl, _, _, _, _, rfl, rfl, SqL.of upd_same, atI_nat (j := 4) rfl, _, _, rfl, rfl, .inl ⟨by decide, by decide⟩, _, _, rfl, rfl, _, _, rfl, rfl, _, _, rfl, rfl, (by show (0 : Int) < 1000000007; decide), _, rfl, _, _, _, 3, rfl, rfl, upd_same, rfl, ?_⟩
        rw [upd_upd]
        refine ⟨_, rfl, _, _, _, _, rfl, rfl, SqL.of upd_same, atI_nat (j := 3) rfl, _, _, rfl, rfl, ⟨by decide, by decide⟩, _, rfl, _, _, rfl, rfl, (show (0 : Int) < many by omega), ?_⟩
        exact k _ _ (Int.emod_nonneg _ (by omega)) (Int.emod_lt_of_pos _ (by omega)) ⟨ns, i, left, _, _, upd_same, g2 _, hi, Int.emod_nonneg _ (by decide), Int.emod_lt_of_pos _ (by decide)⟩ (g3 _)
-- begin
abbrev s_begin : Stmt := top 10
theorem sc_begin : FnScope ["_law_script"] ["_law_script"] (defScope s_begin) := ⟨rfl, rfl, rfl, by decide +kernel, rfl, by decide +kernel, by decide +kernel⟩
theorem ok_begin (F : Fun K "_law_begin" "_law_begin" s_begin f fd) (T : Tx K mg tP) : FnOk P w K mg base CX0 1 f fd ["_law_script"] (spBegin K) := by
  refine F.ok sc_begin (fun vs H Q E h => ?_) (fun cdv A outer s H vs Q E hr h => ?_)
  · obtain ⟨a, ns, rfl, _⟩ := h
    rfl
  · obtain ⟨sc, ns, rfl, hS, k⟩ := h
    refine ⟨_, (pss_one (ps_ret (pe_lst (pa_cons (pe_callTy call_list_of (by rfl) T.no_list (by decide +kernel) (pa_cons (pe_slice sl_list (pv 0) po_none (po_some pe_int)) pa_nil)) (pa_cons pe_int (pa_cons pe_int (pa_cons pe_int (pa_cons pe_int pa_nil)))))))), ?_⟩
    refine ⟨_, rfl, _, rfl, _, _, rfl, hS, fun p hp => ?_⟩
    refine ⟨_, _, rfl, .inl (SqL.of upd_same), fun l hl => ?_⟩
    refine ⟨(by show 5 ≤ sizeLine; decide), fun a ha => ?_⟩
    have s0 := (same_new hp (.lst (cutV (ns.map V.int) none (some 63)))).trans (same_new hl (.lst (cutV (ns.map V.int) none (some 63))))
    obtain ⟨ms, em⟩ := cut_ints ns none (some 63)
    refine k a _ (s0.free ha) ⟨l, ms, 0, 0, 1, 0, upd_same, ?_, by decide, by decide, by decide⟩ (s0.trans (same_new ha _))
    rw [upd_ne (ne_of_none upd_same ha), upd_same, em]
-- same
abbrev s_same : Stmt := top 13
theorem sc_same : FnScope ["_law_found", "_law_due", "_law_k"] ["_law_found", "_law_due"] (defScope s_same) := ⟨rfl, rfl, rfl, by decide +kernel, rfl, by decide +kernel, by decide +kernel⟩
theorem ok_same {n : Nat} (F : Fun K "_law_same" "_law_same" s_same f fd) (T : Tx K mg tP) (D_same : Dn P w K mg base CX0 n "_law_same" ["_law_found", "_law_due"] (spSame K n)) : FnOk P w K mg base CX0 (n + 1) f fd ["_law_found", "_law_due"] (spSame K (n + 1)) := by
  refine F.ok sc_same (fun vs H Q E h => ?_) (fun cdv A outer s H vs Q E hr h => ?_)
  · obtain ⟨x, y, d, rfl, _⟩ := h
    rfl
  · obtain ⟨x, y, d, rfl, hx, hy, hd, hm, k⟩ := h
    refine ⟨_, (pss_cons (ps_if (pt_cmpR op_isN (pv 1) pe_non (nomark _)) (pss_one (ps_ret (pe_cmpR op_isN (pv 0) pe_non (nomark _)))) pss_nil)
      (pss_cons (ps_if (PW.pt (pw_or (pt_val (pe_callB call_isi (by rfl) T.no_isinstance (by decide +kernel) (pa_cons (pv 1) (pa_cons (pe_bltn (v := .ty "bool") (by rfl) T.no_bool (by decide +kernel) rfl) pa_nil)))) (pw_or1 (pt_val (pe_callB call_isi (by rfl) T.no_isinstance (by decide +kernel) (pa_cons (pv 0) (pa_cons (pe_bltn (v := .ty "bool") (by rfl) T.no_bool (by decide +kernel) rfl) pa_nil))))))) (pss_one (ps_ret (pe_and (pe_callB call_isi (by rfl) T.no_isinstance (by decide +kernel) (pa_cons (pv 1) (pa_cons (pe_bltn (v := .ty "bool") (by rfl) T.no_bool (by decide +kernel) rfl) pa_nil))) (pe_and (pe_callB call_isi (by rfl) T.no_isinstance (by decide +kernel) (pa_cons (pv 0) (pa_cons (pe_bltn (v := .ty "bool") (by rfl) T.no_bool (by decide +kernel) rfl) pa_nil))) (pe_one (pe_cmpR op_eq (pv 0) (pv 1) (nomark _))))))) pss_nil)
      (pss_cons (ps_if (pt_val (pe_callB call_isiT (by rfl) T.no_isinstance (by decide +kernel) (pa_cons (pv 1) (pa_cons (pe_tup (pa_cons (pe_bltn (v := .ty "int") (by rfl) T.no_int (by decide +kernel) rfl) (pa_cons (pe_bltn (v := .ty "str") (by rfl) T.no_str (by decide +kernel) rfl) pa_nil))) pa_nil)))) (pss_one (ps_ret (pe_and (pe_cmpR op_eq (pe_callB call_isi (by rfl) T.no_isinstance (by decide +kernel) (pa_cons (pv 0) (pa_cons (pe_bltn (v := .ty "int") (by rfl) T.no_int (by decide +kernel) rfl) pa_nil))) (pe_callB call_isi (by rfl) T.no_isinstance (by decide +kernel) (pa_cons (pv 1) (pa_cons (pe_bltn (v := .ty "int") (by rfl) T.no_int (by decide +kernel) rfl) pa_nil))) (nomark _)) (pe_and (pe_callB call_isiT (by rfl) T.no_isinstance (by decide +kernel) (pa_cons (pv 0) (pa_cons (pe_tup (pa_cons (pe_bltn (v := .ty "int") (by rfl) T.no_int (by decide +kernel) rfl) (pa_cons (pe_bltn (v := .ty "str") (by rfl) T.no_str (by decide +kernel) rfl) pa_nil))) pa_nil))) (pe_one (pe_cmpR op_eq (pv 0) (pv 1) (nomark _))))))) pss_nil)
      (pss_cons (ps_if (PW.pt (pw_or (pt_cmpR op_ne (pe_callB call_isi (by rfl) T.no_isinstance (by decide +kernel) (pa_cons (pv 0) (pa_cons (pe_bltn (v := .ty "list") (by rfl) T.no_list (by decide +kernel) rfl) pa_nil))) (pe_callB call_isi (by rfl) T.no_isinstance (by decide +kernel) (pa_cons (pv 1) (pa_cons (pe_bltn (v := .ty "list") (by rfl) T.no_list (by decide +kernel) rfl) pa_nil))) (nomark _)) (pw_or1 (pt_cmpR op_ne (pe_callB call_isi (by rfl) T.no_isinstance (by decide +kernel) (pa_cons (pv 0) (pa_cons (pe_bltn (v := .ty "tuple") (by rfl) T.no_tuple (by decide +kernel) rfl) pa_nil))) (pe_callB call_isi (by rfl) T.no_isinstance (by decide +kernel) (pa_cons (pv 1) (pa_cons (pe_bltn (v := .ty "tuple") (by rfl) T.no_tuple (by decide +kernel) rfl) pa_nil))) (nomark _))))) (pss_one (ps_ret pe_bl)) pss_nil)
      (pss_one (ps_ret (pe_and (pe_cmpR op_eq (pe_callB call_len_seq (by rfl) T.no_len (by decide +kernel) (pa_cons (pv 0) pa_nil)) (pe_callB call_len_seq (by rfl) T.no_len (by decide +kernel) (pa_cons (pv 1) pa_nil)) (nomark _)) (pe_one (pe_callB (cr_all rfl) (by rfl) T.no_all (by decide +kernel) (pa_cons (pe_lc (own := [("_law_k", 2)]) (g := gName 2) rfl sc_same.nd (pi_range1 (by rfl) T.no_range (pa_cons (pe_callB call_len_seq (by rfl) T.no_len (by decide +kernel) (pa_cons (pv 1) pa_nil)) pa_nil)) (blkOk_by (N := ["_law_found", "_law_due", "_law_k"]) (sc := defScope s_same) (by decide +kernel)) (fun _ _ _ _ _ => (pg_name (i := 2) sc_same.nd rfl (Or.inl rfl))) (fun _ _ _ _ _ => pts_nil) (fun _ _ _ _ _ => (pe_callD D_same hr (by rfl) pass0 (pa_cons (pe_ix (ixQk (K := K) rfl) (pv 0) (pv 2) (fun _ _ => rfl)) (pa_cons (pe_ix (ixQk (K := K) rfl) (pv 1) (pv 2) (fun _ _ => rfl)) pa_nil))))) pa_nil)))))))))), ?_⟩
    cases d with
    | dict kvs => cases hx
    | none =>
      cases hx
      cases hy
      exact ⟨_, rfl, rfl, _, rfl, ifT rfl ⟨_, rfl, rfl, k H (Same.refl H)⟩⟩
    | bool b =>
      cases hx
      cases hy
      have ty : ∀ H, TyX K H (.bl b) (.type "bool") := fun H => .base (.bl b)
      have kb : kitB "bool" "bool" = some true := by decide +kernel
      refine ⟨_, rfl, rfl, _, rfl, ?_⟩
      refine ifF (by simp) ?_
      refine ⟨_, rfl, _, _, _, _, true, rfl, .ty _, ty _, kit_ty kb, _, rfl, ?_⟩
      refine ifT rfl ?_
      refine ifT rfl ?_
      refine ⟨_, rfl, _, _, _, _, true, rfl, .ty _, ty _, kit_ty kb, _, rfl, ?_⟩
      refine ifT rfl ?_
      refine ⟨_, rfl, _, _, _, _, true, rfl, .ty _, ty _, kit_ty kb, _, rfl, ?_⟩
      refine ifT rfl ?_
      refine ⟨_, rfl, _, rfl, rfl, ?_⟩
      rw [decide_eq_true rfl]
      exact k H (Same.refl H)
    | int b =>
      cases hx
      cases hy
      have ty : ∀ H, TyX K H (.int b) (.type "int") := fun H => .base (.int b)
      have kb : kitB "int" "bool" = some false := by decide +kernel
      have ki : kitB "int" "int" = some true := by decide +kernel
      have ks : kitB "int" "str" = some false := by decide +kernel
      refine ⟨_, rfl, rfl, _, rfl, ?_⟩
      refine ifF (by simp) ?_
      refine ⟨_, rfl, _, _, _, _, false, rfl, .ty _, ty _, kit_ty kb, _, rfl, ?_⟩
      refine ifF (by simp) ?_
      refine ⟨_, rfl, _, _, _, _, false, rfl, .ty _, ty _, kit_ty kb, _, rfl, ?_⟩
      refine ifF (by simp) ?_
      refine ⟨_, rfl, (by show 2 ≤ sizeLine; decide), fun t1 nt1 => ⟨_, _, _, _, _, _, rfl, upd_same, cls2 _ _, ty _, kit2 ki ks, _, rfl, ?_⟩⟩
      refine ifT rfl ?_
      refine ⟨_, rfl, _, _, _, _, true, rfl, .ty _, ty _, kit_ty ki, _, rfl, _, _, _, _, true, rfl, .ty _, ty _, kit_ty ki, rfl, _, rfl, ?_⟩
      refine ifT rfl ?_
      refine ⟨_, rfl, (by show 2 ≤ sizeLine; decide), fun t2 nt2 => ⟨_, _, _, _, _, _, rfl, upd_same, cls2 _ _, ty _, kit2 ki ks, _, rfl, ?_⟩⟩
      refine ifT rfl ?_
      refine ⟨_, rfl, _, rfl, rfl, ?_⟩
      rw [decide_eq_true rfl]
      exact k _ ((same_new nt1 _).trans (same_new nt2 _))
    | str b =>
      cases hx
      cases hy
      have ty : ∀ H, TyX K H (.str b) (.type "str") := fun H => .base (.str b)
      have kb : kitB "str" "bool" = some false := by decide +kernel
      have ki : kitB "str" "int" = some false := by decide +kernel
      have ks : kitB "str" "str" = some true := by decide +kernel
      refine ⟨_, rfl, rfl, _, rfl, ?_⟩
      refine ifF (by simp) ?_
      refine ⟨_, rfl, _, _, _, _, false, rfl, .ty _, ty _, kit_ty kb, _, rfl, ?_⟩
      refine ifF (by simp) ?_
      refine ⟨_, rfl, _, _, _, _, false, rfl, .ty _, ty _, kit_ty kb, _, rfl, ?_⟩
      refine ifF (by simp) ?_
      refine ⟨_, rfl, (by show 2 ≤ sizeLine; decide), fun t1 nt1 => ⟨_, _, _, _, _, _, rfl, upd_same, cls2 _ _, ty _, kit2 ki ks, _, rfl, ?_⟩⟩
      refine ifT rfl ?_
      refine ⟨_, rfl, _, _, _, _, false, rfl, .ty _, ty _, kit_ty ki, _, rfl, _, _, _, _, false, rfl, .ty _, ty _, kit_ty ki, rfl, _, rfl, ?_⟩
      refine ifT rfl ?_
      refine ⟨_, rfl, (by show 2 ≤ sizeLine; decide), fun t2 nt2 => ⟨_, _, _, _, _, _, rfl, upd_same, cls2 _ _, ty _, kit2 ki ks, _, rfl, ?_⟩⟩
      refine ifT rfl ?_
      refine ⟨_, rfl, _, rfl, rfl, ?_⟩
      rw [decide_eq_true rfl]
      exact k _ ((same_new nt1 _).trans (same_new nt2 _))
    | list ds =>
      have hd' : PyData.depthAll ds < n := by simp only [PyData.depth] at hd; omega
      have kb : kitB "list" "bool" = some false := by decide +kernel
      have ki : kitB "list" "int" = some false := by decide +kernel
      have ks : kitB "list" "str" = some false := by decide +kernel
      have kl : kitB "list" "list" = some true := by decide +kernel
      have kt : kitB "list" "tuple" = some false := by decide +kernel
      cases hx with
      | @lst a xs _ sx ax =>
      cases hy with
      | @lst b ys _ sy ay =>
      have lx := dpAll_len ax
      have ly := dpAll_len ay
      have hm1 : ds.length ≤ 100000 := by simp only [mxl] at hm; omega
      have hm2 : mxlAll ds ≤ 100000 := by simp only [mxl] at hm; omega
      have hsl := sizeLine_eq
      refine ⟨_, rfl, rfl, _, rfl, ?_⟩
      refine ifF (by simp) ?_
      refine ⟨_, rfl, _, _, _, _, false, rfl, .ty _, tyx_list sy, kit_ty kb, _, rfl, ?_⟩
      refine ifF (by simp) ?_
      refine ⟨_, rfl, _, _, _, _, false, rfl, .ty _, tyx_list sx, kit_ty kb, _, rfl, ?_⟩
      refine ifF (by simp) ?_
      refine ⟨_, rfl, (by show 2 ≤ sizeLine; decide), fun t1 nt1 => ⟨_, _, _, _, _, _, rfl, upd_same, cls2 _ _, tyx_list ((same_new nt1 _).seq sy), kit2 ki ks, _, rfl, ?_⟩⟩
      refine ifF (by simp) ?_
      have s1 := same_new nt1 (.tup [.ty "int", .ty "str"])
      have sx1 := s1.seq sx
      have sy1 := s1.seq sy
      refine ⟨_, rfl, _, _, _, _, true, rfl, .ty _, tyx_list sx1, kit_ty kl, _, rfl, _, _, _, _, true, rfl, .ty _, tyx_list sy1, kit_ty kl, rfl, _, rfl, ?_⟩
      refine ifF (by simp) ?_
      refine ⟨_, rfl, _, _, _, _, false, rfl, .ty _, tyx_list sx1, kit_ty kt, _, rfl, _, _, _, _, false, rfl, .ty _, tyx_list sy1, kit_ty kt, rfl, _, rfl, ?_⟩
      refine ifF (by simp) ?_
      refine ⟨_, rfl, _, _, rfl, .inl sx1, _, rfl, _, _, rfl, .inl sy1, rfl, _, rfl, ?_⟩
      refine ifT (by simp [lx, ly]) ?_
      refine ⟨_, rfl, _, _, rfl, .inl sy1, _, rfl, (by omega), (by omega), fun D hD => ?_⟩
      generalize upd H t1 (HO.tup [V.ty "int", V.ty "str"]) = H1 at *
      refine lc_range (lo := 0) (n := ((ys.length : Nat) : Int).toNat) (fun i H2 => Same H1 H2 ∧ H2 D = some (.lst (List.replicate i (V.bl true)))) ⟨same_new hD _, upd_same⟩ ?_ ?_
      · rintro i H2 hi ⟨s2, e2⟩
        have hi' : i < ds.length := by omega
        have ed : ds[i]? = some ds[i] := List.getElem?_eq_getElem hi'
        obtain ⟨v, ev, dv⟩ := dpAll_get ax ed
        obtain ⟨u, eu, du⟩ := dpAll_get ay ed
        have nd : (ds[i]).depth < n := Nat.lt_of_le_of_lt (depth_get ed) hd'
        refine ⟨rfl, ?_⟩
        unfold tYes
        refine ifT rfl ?_
        refine ⟨_, rfl, _, rfl, .inl ⟨_, _, _, _, rfl, rfl, s2.seq sx1, at_of (by simp) ev, _, rfl, _, rfl, .inl ⟨_, _, _, _, rfl, rfl, s2.seq sy1, at_of (by simp) eu, _, _, _, rfl, dp_same (s1.trans s2) _ _ dv, dp_same (s1.trans s2) _ _ du, nd, Nat.le_trans (mxl_get ed) hm2, fun H3 s3 => ?_⟩⟩⟩
        refine ⟨_, s3 _ _ e2, (by rw [List.length_replicate]; omega), ?_, ?_⟩
        · intro b' o q
          rw [upd_ne (ne_of_none q hD)]
          exact s3 _ _ (s2 _ _ q)
        · rw [upd_same, rep_succ]
      · rintro H2 ⟨s2, e2⟩
        refine ⟨_, List.replicate ys.length true, rfl, SqL.of (by rw [e2, ← rep_bl]; simp), ?_⟩
        rw [rep_all]
        exact k _ (s1.trans s2)
    | tuple ds =>
      have hd' : PyData.depthAll ds < n := by simp only [PyData.depth] at hd; omega
      have kb : kitB "tuple" "bool" = some false := by decide +kernel
      have ki : kitB "tuple" "int" = some false := by decide +kernel
      have ks : kitB "tuple" "str" = some false := by decide +kernel
      have kl : kitB "tuple" "list" = some false := by decide +kernel
      have kt : kitB "tuple" "tuple" = some true := by decide +kernel
      cases hx with
      | @tup a xs _ sx ax =>
      cases hy with
      | @tup b ys _ sy ay =>
      have lx := dpAll_len ax
      have ly := dpAll_len ay
      have hm1 : ds.length ≤ 100000 := by simp only [mxl] at hm; omega
      have hm2 : mxlAll ds ≤ 100000 := by simp only [mxl] at hm; omega
      have hsl := sizeLine_eq
      refine ⟨_, rfl, rfl, _, rfl, ?_⟩
      refine ifF (by simp) ?_
      refine ⟨_, rfl, _, _, _, _, false, rfl, .ty _, tyx_tuple sy, kit_ty kb, _, rfl, ?_⟩
      refine ifF (by simp) ?_
      refine ⟨_, rfl, _, _, _, _, false, rfl, .ty _, tyx_tuple sx, kit_ty kb, _, rfl, ?_⟩
      refine ifF (by simp) ?_
      refine ⟨_, rfl, (by show 2 ≤ sizeLine; decide), fun t1 nt1 => ⟨_, _, _, _, _, _, rfl, upd_same, cls2 _ _, tyx_tuple (Same.tup (same_new nt1 _) sy), kit2 ki ks, _, rfl, ?_⟩⟩
      refine ifF (by simp) ?_
      have s1 := same_new nt1 (.tup [.ty "int", .ty "str"])
      have sx1 := Same.tup s1 sx
      have sy1 := Same.tup s1 sy
      refine ⟨_, rfl, _, _, _, _, false, rfl, .ty _, tyx_tuple sx1, kit_ty kl, _, rfl, _, _, _, _, false, rfl, .ty _, tyx_tuple sy1, kit_ty kl, rfl, _, rfl, ?_⟩
      refine ifF (by simp) ?_
      refine ⟨_, rfl, _, _, _, _, true, rfl, .ty _, tyx_tuple sx1, kit_ty kt, _, rfl, _, _, _, _, true, rfl, .ty _, tyx_tuple sy1, kit_ty kt, rfl, _, rfl, ?_⟩
      refine ifF (by simp) ?_
      refine ⟨_, rfl, _, _, rfl, .inr sx1, _, rfl, _, _, rfl, .inr sy1, rfl, _, rfl, ?_⟩
      refine ifT (by simp [lx, ly]) ?_
      refine ⟨_, rfl, _, _, rfl, .inr sy1, _, rfl, (by omega), (by omega), fun D hD => ?_⟩
      generalize upd H t1 (HO.tup [V.ty "int", V.ty "str"]) = H1 at *
      refine lc_range (lo := 0) (n := ((ys.length : Nat) : Int).toNat) (fun i H2 => Same H1 H2 ∧ H2 D = some (.lst (List.replicate i (V.bl true)))) ⟨same_new hD _, upd_same⟩ ?_ ?_
      · rintro i H2 hi ⟨s2, e2⟩
        have hi' : i < ds.length := by omega
        have ed : ds[i]? = some ds[i] := List.getElem?_eq_getElem hi'
        obtain ⟨v, ev, dv⟩ := dpAll_get ax ed
        obtain ⟨u, eu, du⟩ := dpAll_get ay ed
        have nd : (ds[i]).depth < n := Nat.lt_of_le_of_lt (depth_get ed) hd'
        refine ⟨rfl, ?_⟩
        unfold tYes
        refine ifT rfl ?_
        refine ⟨_, rfl, _, rfl, .inr (.inl ⟨_, _, _, _, rfl, rfl, Same.tup s2 sx1, at_of (by simp) ev, _, rfl, _, rfl, .inr (.inl ⟨_, _, _, _, rfl, rfl, Same.tup s2 sy1, at_of (by simp) eu, _, _, _, rfl, dp_same (s1.trans s2) _ _ dv, dp_same (s1.trans s2) _ _ du, nd, Nat.le_trans (mxl_get ed) hm2, fun H3 s3 => ?_⟩)⟩)⟩
        refine ⟨_, s3 _ _ e2, (by rw [List.length_replicate]; omega), ?_, ?_⟩
        · intro b' o q
          rw [upd_ne (ne_of_none q hD)]
          exact s3 _ _ (s2 _ _ q)
        · rw [upd_same, rep_succ]
      · rintro H2 ⟨s2, e2⟩
        refine ⟨_, List.replicate ys.length true, rfl, SqL.of (by rw [e2, ← rep_bl]; simp), ?_⟩
        rw [rep_all]
        exact k _ (s1.trans s2)
theorem same_all (F : Fun K "_law_same" "_law_same" s_same f fd) (T : Tx K mg tP) (b : Binds K fd ["_law_found", "_law_due"] []) (m : mg "_law_same" = some (.ref f)) (kp : PySem.W.keepIn K (.ref f) = true) :
    ∀ n : Nat, Dn P w K mg base CX0 n "_law_same" ["_law_found", "_law_due"] (spSame K n)
  | 0 => ⟨f, fd, same_none, m, kp, b⟩
  | n + 1 => ⟨f, fd, ok_same F T (same_all F T b m kp n), m, kp, b⟩
end
end K27

set_option Elab.async false
set_option linter.all false
set_option maxRecDepth 100000
set_option maxHeartbeats 4000000
namespace K27
open PySem L2 Gs
section
variable {P : Program} {w : World} {K : PySem.W.Frag} {mg : Str → Option Value} {base : Heap} {f : Addr} {fd : FuncData} {tP : Tok}
abbrev s_shared : Stmt := top 2
theorem sc_shared : FnScope ["one", "other", "row", "column", "high", "wide"] ["one", "other"] (defScope s_shared) := ⟨rfl, rfl, rfl, by decide +kernel, rfl, by decide +kernel, by decide +kernel⟩
theorem ok_shared (F : Fun K "shared" "shared" s_shared f fd) (T : Tx K mg tP)  : FnOk P w K mg base CX0 1 f fd ["one", "other"] spShared := by
  refine F.ok sc_shared (fun vs H Q E h => ?_) (fun cdv A outer s H vs Q E hr h => ?_)
  · obtain ⟨p, q, a, b, rfl, _⟩ := h
    rfl
  · obtain ⟨p, q, a, b, rfl, hp, hq, k1, k2⟩ := h
    refine ⟨_, (pss_cons (ps_set (i := 2) sc_shared.nd rfl (.inl rfl) (pe_callB (call_max2 rfl) (by rfl) T.no_max (by decide +kernel) (pa_cons (pe_ix ix_tup (pv 0) pe_int (fun _ _ => rfl)) (pa_cons (pe_ix ix_tup (pv 1) pe_int (fun _ _ => rfl)) pa_nil))))
      (pss_cons (ps_set (i := 3) sc_shared.nd rfl (.inl rfl) (pe_callB (call_max2 rfl) (by rfl) T.no_max (by decide +kernel) (pa_cons (pe_ix ix_tup (pv 0) pe_int (fun _ _ => rfl)) (pa_cons (pe_ix ix_tup (pv 1) pe_int (fun _ _ => rfl)) pa_nil))))
      (pss_cons (ps_set (i := 4) sc_shared.nd rfl (.inl rfl) (pe_op op_sub (pe_callB (call_min2 rfl) (by rfl) T.no_min (by decide +kernel) (pa_cons (pe_op op_add (pe_ix ix_tup (pv 0) pe_int (fun _ _ => rfl)) (pe_ix ix_tup (pv 0) pe_int (fun _ _ => rfl))) (pa_cons (pe_op op_add (pe_ix ix_tup (pv 1) pe_int (fun _ _ => rfl)) (pe_ix ix_tup (pv 1) pe_int (fun _ _ => rfl))) pa_nil))) (pv 2)))
      (pss_cons (ps_set (i := 5) sc_shared.nd rfl (.inl rfl) (pe_op op_sub (pe_callB (call_min2 rfl) (by rfl) T.no_min (by decide +kernel) (pa_cons (pe_op op_add (pe_ix ix_tup (pv 0) pe_int (fun _ _ => rfl)) (pe_ix ix_tup (pv 0) pe_int (fun _ _ => rfl))) (pa_cons (pe_op op_add (pe_ix ix_tup (pv 1) pe_int (fun _ _ => rfl)) (pe_ix ix_tup (pv 1) pe_int (fun _ _ => rfl))) pa_nil))) (pv 3)))
      (pss_cons (ps_if (PW.pt (pw_or (pt_cmpR op_lt (pv 4) pe_int (nomark _)) (pw_or1 (pt_cmpR op_lt (pv 5) pe_int (nomark _))))) (pss_one (ps_ret pe_non)) pss_nil)
      (pss_one (ps_ret (pe_tup (pa_cons (pv 2) (pa_cons (pv 3) (pa_cons (pv 4) (pa_cons (pv 5) pa_nil)))))))))))), ?_⟩
    refine ⟨_, rfl, _, _, _, _, rfl, rfl, SqT.of hp, atI_nat (j := 0) rfl, _, rfl, _, _, _, _, rfl, rfl, SqT.of hq, atI_nat (j := 0) rfl, _, _, rfl, ?_⟩
    refine ⟨_, rfl, _, _, _, _, rfl, rfl, SqT.of hp, atI_nat (j := 1) rfl, _, rfl, _, _, _, _, rfl, rfl, SqT.of hq, atI_nat (j := 1) rfl, _, _, rfl, ?_⟩
    refine ⟨_, rfl, _, _, _, _, rfl, rfl, SqT.of hp, atI_nat (j := 0) rfl, _, rfl, _, _, _, _, rfl, rfl, SqT.of hp, atI_nat (j := 2) rfl, _, _, rfl, rfl, _, rfl, _, _, _, _, rfl, rfl, SqT.of hq, atI_nat (j := 0) rfl, _, rfl, _, _, _, _, rfl, rfl, SqT.of hq, atI_nat (j := 2) rfl, _, _, rfl, rfl, _, _, rfl, _, rfl, _, _, rfl, rfl, ?_⟩
    refine ⟨_, rfl, _, _, _, _, rfl, rfl, SqT.of hp, atI_nat (j := 1) rfl, _, rfl, _, _, _, _, rfl, rfl, SqT.of hp, atI_nat (j := 3) rfl, _, _, rfl, rfl, _, rfl, _, _, _, _, rfl, rfl, SqT.of hq, atI_nat (j := 1) rfl, _, rfl, _, _, _, _, rfl, rfl, SqT.of hq, atI_nat (j := 3) rfl, _, _, rfl, rfl, _, _, rfl, _, rfl, _, _, rfl, rfl, ?_⟩
    refine ⟨_, rfl, _, _, rfl, rfl, _, rfl, ?_⟩
    refine ite2 (fun c => ?_) (fun c => ?_)
    · exact ifT rfl (k1 (.inl (of_decide_eq_true c)))
    · refine ⟨_, rfl, _, _, rfl, rfl, _, rfl, ?_⟩
      refine ite2 (fun c' => ?_) (fun c' => ?_)
      · exact k1 (.inr (of_decide_eq_true c'))
      · refine ⟨_, rfl, _, rfl, _, rfl, _, rfl, (by show 4 ≤ sizeLine; decide), fun t ht => ?_⟩
        refine k2 (fun z => ?_) t ht
        rcases z with z | z
        · exact c (decide_eq_true z)
        · exact c' (decide_eq_true z)
abbrev s_has : Stmt := top 1
theorem sc_has : FnScope ["box", "row", "column", "first", "left", "high", "wide"] ["box", "row", "column"] (defScope s_has) := ⟨rfl, rfl, rfl, by decide +kernel, rfl, by decide +kernel, by decide +kernel⟩
theorem ok_has (F : Fun K "has" "has" s_has f fd) (T : Tx K mg tP)  : FnOk P w K mg base CX0 3 f fd ["box", "row", "column"] spHas := by
  refine F.ok sc_has (fun vs H Q E h => ?_) (fun cdv A outer s H vs Q E hr h => ?_)
  · obtain ⟨p, a, i, j, rfl, _⟩ := h
    rfl
  · obtain ⟨p, a, i, j, rfl, hp, k⟩ := h
    refine ⟨_, (pss_cons (ps_asg (pv 0) (pg_tup (by rfl) (pgs_cons (pg_name (i := 3) sc_has.nd rfl (.inl rfl)) (pgs_cons (pg_name (i := 4) sc_has.nd rfl (.inl rfl)) (pgs_cons (pg_name (i := 5) sc_has.nd rfl (.inl rfl)) (pgs_cons (pg_name (i := 6) sc_has.nd rfl (.inl rfl)) pgs_nil))))))
      (pss_one (ps_ret (pe_and (pe_chain op_le op_lt (pv 3) (pv 1) (pe_op op_add (pv 3) (pv 5))) (pe_one (pe_chain op_le op_lt (pv 4) (pv 2) (pe_op op_add (pv 4) (pv 6)))))))), ?_⟩
    have kq : ∀ b : Bool, (b = true ↔ (a.r ≤ i ∧ i < a.r + a.h) ∧ (a.c ≤ j ∧ j < a.c + a.w)) → Q (.bl b) H := fun b hb => by
      have kk := k H (Same.refl H)
      have e1 : shNo a ⟨i, j, 1, 1⟩ ↔ ¬ ((a.r ≤ i ∧ i < a.r + a.h) ∧ (a.c ≤ j ∧ j < a.c + a.w)) := by
        unfold shNo shM
        simp only
        constructor
        · intro h
          split at h <;> split at h <;> split at h <;> split at h <;> omega
        · intro h
          split <;> split <;> split <;> split <;> omega
      have e : (!decide (shNo a ⟨i, j, 1, 1⟩)) = b := by
        cases b with
        | true => rw [decide_eq_false (fun z => e1.mp z (hb.mp rfl))]; rfl
        | false => rw [decide_eq_true (e1.mpr fun z => Bool.false_ne_true (hb.mpr z))]; rfl
      rw [e] at kk
      exact kk
    refine ⟨_, rfl, _, _, rfl, SqT.of hp, rfl, _, _, rfl, _, _, rfl, _, _, rfl, _, _, rfl, rfl, ?_⟩
    refine ⟨_, rfl, _, rfl, _, _, rfl, rfl, _, rfl, ?_⟩
    refine ite2 (fun c1 => ?_) (fun c1 => ?_)
    · have c1' := of_decide_eq_true c1
      refine ⟨_, rfl, _, rfl, _, _, rfl, rfl, _, _, rfl, rfl, _, rfl, ?_⟩
      refine ite2 (fun c2 => ?_) (fun c2 => ?_)
      · have c2' := of_decide_eq_true c2
        refine ⟨_, rfl, _, rfl, _, _, rfl, rfl, _, rfl, ?_⟩
        refine ite2 (fun c3 => ?_) (fun c3 => ?_)
        · have c3' := of_decide_eq_true c3
          refine ⟨_, rfl, _, rfl, _, _, rfl, rfl, _, _, rfl, rfl, kq _ ⟨fun q => ⟨⟨c1', c2'⟩, c3', of_decide_eq_true q⟩, fun q => decide_eq_true q.2.2⟩⟩
        · exact kq _ ⟨(fun q => nomatch q), fun q => absurd (decide_eq_true q.2.1) c3⟩
      · exact kq _ ⟨(fun q => nomatch q), fun q => absurd (decide_eq_true q.1.2) c2⟩
    · refine ⟨_, rfl, ?_⟩
      refine ifF (by simp) ?_
      exact kq _ ⟨(fun q => nomatch q), fun q => absurd (decide_eq_true q.1.1) c1⟩
abbrev s_with_put : Stmt := top 5
theorem sc_with_put : FnScope ["row", "u", "text"] ["row", "u", "text"] (defScope s_with_put) := ⟨rfl, rfl, rfl, by decide +kernel, rfl, by decide +kernel, by decide +kernel⟩
theorem ok_with_put (F : Fun K "with_put" "with_put" s_with_put f fd) (T : Tx K mg tP)  : FnOk P w K mg base CX0 1 f fd ["row", "u", "text"] spWithPut := by
  refine F.ok sc_with_put (fun vs H Q E h => ?_) (fun cdv A outer s H vs Q E hr h => ?_)
  · obtain ⟨row, u, t, rfl, _⟩ := h
    rfl
  · obtain ⟨row, u, t, rfl, hl, h0, h1, k⟩ := h
    refine ⟨_, (pss_one (ps_ret (pe_slice sl_str (pe_op op_add_str (pe_op op_add_str (pe_slice sl_str (pv 0) po_none (po_some (pv 1))) (pv 2)) (pe_slice sl_str (pv 0) (po_some (pe_op op_add (pv 1) (pe_callB call_len_str (by rfl) T.no_len (by decide +kernel) (pa_cons (pv 2) pa_nil)))) po_none)) po_none (po_some (pe_callB call_len_str (by rfl) T.no_len (by decide +kernel) (pa_cons (pv 0) pa_nil)))))), ?_⟩
    have lz : row.length ≤ sizeLine := small (by omega)
    have lt : t.length ≤ sizeLine := small (by omega)
    have c0 := cut_len0 (x := row) h0 (by omega)
    have c1 := cut_len1 (x := row) (u := u + t.length) (by omega) h1
    have wl := wp_len h0 h1
    refine ⟨_, rfl, _, rfl, _, rfl, _, rfl, lz, _, rfl, _, _, rfl, rfl, small (by omega), _, rfl, _, rfl, _, rfl, _, rfl, lt, _, _, rfl, rfl, _, rfl, _, rfl, lz, _, _, rfl, rfl, small (by rw [PySem.Str.length_append]; omega), _, rfl, _, rfl, lz, _, rfl, _, rfl, ?_, ?_⟩
    · show (wpM row u t).length ≤ sizeLine
      rw [wl]
      exact lz
    · have e := cut_all (wpM row u t)
      rw [wl] at e
      show Q (.str (cutS (wpM row u t) none (some (row.length : Int)))) H
      rw [e]
      exact k
abbrev s_behind_put : Stmt := top 6
theorem sc_behind_put : FnScope ["rows", "v", "u", "text", "at", "row"] ["rows", "v", "u", "text"] (defScope s_behind_put) := ⟨rfl, rfl, rfl, by decide +kernel, rfl, by decide +kernel, by decide +kernel⟩
theorem ok_behind_put (F : Fun K "behind_put" "behind_put" s_behind_put f fd) (T : Tx K mg tP) (D_with_put : Dn P w K mg base CX0 1 "with_put" ["row", "u", "text"] spWithPut) : FnOk P w K mg base CX0 2 f fd ["rows", "v", "u", "text"] spBPut := by
  refine F.ok sc_behind_put (fun vs H Q E h => ?_) (fun cdv A outer s H vs Q E hr h => ?_)
  · obtain ⟨l, v, u, t, rows, n, m, rfl, _⟩ := h
    rfl
  · obtain ⟨l, v, u, t, rows, n, m, rfl, hl, R, n1, m1, ⟨g1, g2, g3, g4⟩, k⟩ := h
    refine ⟨_, (pss_one (ps_ret (pe_lc (own := [("at", 4), ("row", 5)]) (g := gTup K 2 (gCons (gName 4) (gCons (gName 5) gNil))) rfl sc_behind_put.nd (pi_enum (by rfl) T.no_enumerate (pa_cons (pv 0) pa_nil)) (blkOk_by (N := ["rows", "v", "u", "text", "at", "row"]) (sc := defScope s_behind_put) (by decide +kernel)) (fun _ _ _ _ _ => (pg_tupK (K := K) rfl (by rfl) (pgs_cons (pg_name (i := 4) sc_behind_put.nd rfl (.inl rfl)) (pgs_cons (pg_name (i := 5) sc_behind_put.nd rfl (.inl rfl)) pgs_nil)))) (fun _ _ _ _ _ => pts_nil) (fun _ _ _ _ _ => (pe_ifExp (pt_cmpR op_eq (pv 4) (pv 1) (nomark _)) (pe_callD D_with_put (hr.mono (by omega)) (by rfl) pass0 (pa_cons (pv 5) (pa_cons (pv 2) (pa_cons (pv 3) pa_nil)))) (pv 5)))))), ?_⟩
    have Rl := R.1
    refine ⟨_, rfl, l, _, rfl, SqL.of hl, fun D hD => ?_⟩
    refine lc_it walk_enum (fun j H2 => Same H H2 ∧ H2 D = some (.lst (((putRM rows v u t).take j).map V.str))) ⟨same_new hD _, upd_same⟩ (fun j H2 _ q => SqL.of (q.1 _ _ hl)) ?_ ?_
    · rintro j y H2 H2' hj ⟨s2, e2⟩ ⟨T1, x, z, rfl, nT, rfl, ex, ez⟩
      cases ex
      rw [List.length_map] at hj
      have ez : (rows.map V.str)[j]? = some z := ez
      rw [List.getElem?_map] at ez
      cases hr : rows[j]? with
      | none => rw [hr] at ez; cases ez
      | some r =>
        rw [hr] at ez
        have ez' : V.str r = z := Option.some.inj ez
        subst ez'
        have rm := R.2 r (List.mem_of_getElem? hr)
        have s3 := same_new nT (.tup [.int (j : Int), .str r])
        have e3 := s3 _ _ e2
        refine ⟨T1, _, rfl, SqT.of upd_same, rfl, _, _, rfl, _, _, rfl, rfl, rfl, ?_⟩
        unfold tYes
        refine ifT rfl ?_
        have pl : (putRM rows v u t).length = rows.length := by unfold putRM; rw [List.length_set]
        have fin : ∀ y : Str, (putRM rows v u t)[j]? = some y → ∃ acc, upd H2 T1 (.tup [.int (j : Int), .str r]) D = some (.lst acc) ∧ acc.length < sizeLine ∧ Same H (upd (upd H2 T1 (.tup [.int (j : Int), .str r])) D (.lst (acc ++ [.str y]))) ∧ upd (upd H2 T1 (.tup [.int (j : Int), .str r])) D (.lst (acc ++ [.str y])) D = some (.lst (((putRM rows v u t).take (j + 1)).map V.str)) := fun y hy => by
          refine ⟨_, e3, ?_, ?_, ?_⟩
          · refine Nat.lt_of_le_of_lt ?_ (show 1000 < sizeLine by decide)
            rw [List.length_map]
            exact Nat.le_trans (List.length_take_le' _ _) (by omega)
          · intro b' o' z'
            rw [upd_ne (ne_of_none z' hD)]
            exact s3 _ _ (s2 _ _ z')
          · rw [upd_same, List.take_add_one, hy, List.map_append]
            rfl
        refine ⟨_, rfl, _, rfl, rfl, _, rfl, ?_⟩
        refine ite2 (fun c => ?_) (fun c => ?_)
        · have c' : (j : Int) = v := by have := of_decide_eq_true c; injection this
          have jv : v.toNat = j := by omega
          refine ⟨_, rfl, _, rfl, _, rfl, r, u, t, rfl, by omega, g3, by rw [rm]; exact g4, ?_⟩
          refine fin _ ?_
          unfold putRM
          rw [jv, List.getElem?_set_self (by omega), List.getD_eq_getElem?_getD, hr]
          rfl
        · have c' : ¬ (j : Int) = v := fun q => c (decide_eq_true (congrArg V.int q))
          refine ⟨_, rfl, ?_⟩
          refine fin _ ?_
          unfold putRM
          rw [List.getElem?_set_ne (by omega), hr]
    rintro H2 ⟨s2, e2⟩
    have pl : (putRM rows v u t).length = rows.length := by unfold putRM; rw [List.length_set]
    rw [List.length_map, ← pl, List.take_length] at e2
    exact k D H2 s2 e2
abbrev s_behind_shift : Stmt := top 7
theorem sc_behind_shift : FnScope ["rows", "stretch", "down", "across", "within", "changed", "v", "row", "signs", "u", "sign", "moved"] ["rows", "stretch", "down", "across"] (defScope s_behind_shift) := ⟨rfl, rfl, rfl, by decide +kernel, rfl, by decide +kernel, by decide +kernel⟩
theorem ok_behind_shift (F : Fun K "behind_shift" "behind_shift" s_behind_shift f fd) (T : Tx K mg tP) (D_shared : Dn P w K mg base CX0 1 "shared" ["one", "other"] spShared) (D_has : Dn P w K mg base CX0 3 "has" ["box", "row", "column"] spHas) : FnOk P w K mg base CX0 4 f fd ["rows", "stretch", "down", "across"] spBShift := by
  refine F.ok sc_behind_shift (fun vs H Q E h => ?_) (fun cdv A outer s H vs Q E hr h => ?_)
  · obtain ⟨l, bx, b, d, a, rows, n, m, rfl, _⟩ := h
    rfl
  · obtain ⟨l, bx, b, d, a, rows, n, m, rfl, hl, hb, R, n1, m1, ⟨g1, g2, g3, g4, g5, g6⟩, k⟩ := h
    refine ⟨_, (pss_cons (ps_set (i := 4) sc_behind_shift.nd rfl (.inl rfl) (pe_callD D_shared (hr.mono (by omega)) (by rfl) pass0 (pa_cons (pv 1) (pa_cons (pe_tup (pa_cons pe_int (pa_cons pe_int (pa_cons (pe_callB call_len_seq (by rfl) T.no_len (by decide +kernel) (pa_cons (pv 0) pa_nil)) (pa_cons (pe_callB call_len_str (by rfl) T.no_len (by decide +kernel) (pa_cons (pe_ix ix_list (pv 0) pe_int (fun _ _ => rfl)) pa_nil)) pa_nil))))) pa_nil))))
      (pss_cons (ps_if (pt_cmpR op_isN (pv 4) pe_non (nomark _)) (pss_one (ps_ret (pv 0))) pss_nil)
      (pss_cons (ps_set (i := 5) sc_behind_shift.nd rfl (.inl rfl) (pe_lst pa_nil))
      (pss_cons (ps_for PassesOwn.never rfl (pi_enum (by rfl) T.no_enumerate (pa_cons (pv 0) pa_nil)) (pg_tup (by rfl) (pgs_cons (pg_name (i := 6) sc_behind_shift.nd rfl (.inl rfl)) (pgs_cons (pg_name (i := 7) sc_behind_shift.nd rfl (.inl rfl)) pgs_nil)))
        (pss_cons (ps_set (i := 8) sc_behind_shift.nd rfl (.inl rfl) (pe_lst pa_nil))
        (pss_cons (ps_for PassesOwn.never rfl (pi_enumS (by rfl) T.no_enumerate (pa_cons (pv 7) pa_nil)) (pg_tup (by rfl) (pgs_cons (pg_name (i := 9) sc_behind_shift.nd rfl (.inl rfl)) (pgs_cons (pg_name (i := 10) sc_behind_shift.nd rfl (.inl rfl)) pgs_nil)))
          (pss_cons (ps_set (i := 11) sc_behind_shift.nd rfl (.inl rfl) (pe_and (pe_callD D_has (hr.mono (by omega)) (by rfl) pass0 (pa_cons (pv 4) (pa_cons (pv 6) (pa_cons (pv 9) pa_nil)))) (pe_one (pe_callD D_has (hr.mono (by omega)) (by rfl) pass0 (pa_cons (pv 4) (pa_cons (pe_op op_add (pv 6) (pv 2)) (pa_cons (pe_op op_add (pv 9) (pv 3)) pa_nil)))))))
          (pss_one (ps_expr (pe_bm PySem.F.plainAttrs_list PySem.F.slot_list_append PySem.F.type_list_append mt_append (pv 8) (pa_cons (pe_ifExp (pt_val (pv 11)) (pe_ix ix_str (pe_ix ix_list (pv 0) (pe_op op_add (pv 6) (pv 2)) (fun _ _ => rfl)) (pe_op op_add (pv 9) (pv 3)) (fun _ _ => rfl)) (pv 10)) pa_nil))))))
        (pss_one (ps_expr (pe_bm PySem.F.plainAttrs_list PySem.F.slot_list_append PySem.F.type_list_append mt_append (pv 5) (pa_cons (pe_bm PySem.F.plainAttrs_str PySem.F.slot_str_join PySem.F.type_str_join mt_join pe_str (pa_cons (pv 8) pa_nil)) pa_nil)))))))
      (pss_one (ps_ret (pv 5))))))), ?_⟩
    have Rl := R.1
    have n0 : 0 < rows.length := by omega
    obtain ⟨r0, er0, mr0, ar0⟩ := strs_at (rows := rows) (i := 0) (n := n) (by decide) (by omega) Rl
    have rm0 := R.2 r0 mr0
    refine ⟨_, rfl, _, rfl, _, _, rfl, .inl (SqL.of hl), _, rfl, _, _, _, _, rfl, rfl, SqL.of hl, ar0, _, rfl, small (by omega), (by show 4 ≤ sizeLine; decide), fun t1 nt1 => ?_⟩
    have el : ((rows.map V.str).length : Int) = (n : Int) := by rw [List.length_map, Rl]
    have em : (r0.length : Int) = (m : Int) := by rw [rm0]
    obtain ⟨H1, eH⟩ : ∃ H1, H1 = upd H t1 (.tup (boxL ⟨0, 0, n, m⟩)) := ⟨_, rfl⟩
    have eH' : upd H t1 (.tup [.int 0, .int 0, .int ((rows.map V.str).length : Int), .int (r0.length : Int)]) = H1 := by rw [eH, el, em]; rfl
    have s1 : Same H H1 := by rw [eH]; exact same_new nt1 _
    have e1 : H1 t1 = some (.tup (boxL ⟨0, 0, n, m⟩)) := by rw [eH]; exact upd_same
    obtain ⟨shE, shY⟩ := sh_within (b := b) (n := n) (m := m) g1 g2 g3 g4 g5 g6
    rw [eH']
    refine ⟨bx, t1, b, ⟨0, 0, n, m⟩, rfl, s1 _ _ hb, e1, fun c => absurd c shY, fun _ t2 nt2 => ?_⟩
    rw [shE]
    have s2 := same_new nt2 (.tup (boxL b))
    have e2 : upd H1 t2 (.tup (boxL b)) t2 = some (.tup (boxL b)) := upd_same
    generalize upd H1 t2 (.tup (boxL b)) = H2 at s2 e2 ⊢
    refine ⟨_, rfl, rfl, _, rfl, ?_⟩
    refine ifF (by simp) ?_
    refine ⟨(by show 0 ≤ sizeLine; decide), fun D hD => ?_⟩
    have s3 := same_new hD (.lst [])
    have e3 : upd H2 D (.lst []) D = some (.lst []) := upd_same
    have nD : H D = none := s1.free (s2.free hD)
    have Dt : t2 ≠ D := ne_of_none e2 hD
    have Dl : l ≠ D := ne_of_none (s2 _ _ (s1 _ _ hl)) hD
    generalize upd H2 D (.lst []) = H3 at s3 e3 ⊢
    have hl3 := s3 _ _ (s2 _ _ (s1 _ _ hl))
    refine ⟨_, rfl, l, _, rfl, SqL.of hl3, ?_⟩
    refine for_it walk_enum (fun j σ H' => (Same H H' ∧ H' l = some (.lst (rows.map V.str)) ∧ H' t2 = some (.tup (boxL b))) ∧ (∃ x6 x7 x8 x9 x10 x11, σ = [some (.ref l), some (.ref bx), some (.int d), some (.int a), some (.ref t2), some (.ref D), x6, x7, x8, x9, x10, x11]) ∧ H' D = some (.lst (((List.range j).map fun v => lnM rows b d a v m).map V.str))) ⟨⟨s1.trans (s2.trans s3), hl3, s3 _ _ e2⟩, ⟨_, _, _, _, _, _, rfl⟩, e3⟩ (fun j σ H' _ q => SqL.of q.1.2.1) ?_ ?_
    · rintro v y σ H4 H4' hj ⟨⟨s4, hl4, ht4⟩, ⟨x6, x7, x8, x9, x10, x11, rfl⟩, d4⟩ ⟨T1, xx, z, rfl, nT, rfl, ex, ez⟩
      cases ex
      rw [List.length_map] at hj
      have ez : (rows.map V.str)[v]? = some z := ez
      rw [List.getElem?_map] at ez
      cases hr : rows[v]? with
      | none => rw [hr] at ez; cases ez
      | some r =>
        rw [hr] at ez
        have ez' : V.str r = z := Option.some.inj ez
        subst ez'
        have rm := R.2 r (List.mem_of_getElem? hr)
        have s5 := same_new nT (.tup [.int (v : Int), .str r])
        have e5 : upd H4 T1 (.tup [.int (v : Int), .str r]) T1 = some (.tup [.int (v : Int), .str r]) := upd_same
        generalize upd H4 T1 (.tup [.int (v : Int), .str r]) = H5 at s5 e5 ⊢
        refine ⟨T1, _, rfl, SqT.of e5, rfl, _, _, rfl, _, _, rfl, rfl, ?_⟩
        have s05 := s4.trans s5
        refine ⟨(by show 0 ≤ sizeLine; decide), fun S hS => ?_⟩
        have s6 := same_new hS (.lst [])
        have e6 : upd H5 S (.lst []) S = some (.lst []) := upd_same
        have nS : H S = none := s05.free hS
        have SD : D ≠ S := ne_of_none (s5 _ _ d4) hS
        have Sl : l ≠ S := ne_of_none (s5 _ _ hl4) hS
        have St : t2 ≠ S := ne_of_none (s5 _ _ ht4) hS
        generalize upd H5 S (.lst []) = H6 at s6 e6 ⊢
        refine ⟨_, rfl, r, rfl, ?_⟩
        refine for_it walk_enumS (fun j σ H' => (Same H H' ∧ H' l = some (.lst (rows.map V.str)) ∧ H' t2 = some (.tup (boxL b)) ∧ H' D = some (.lst (((List.range v).map fun v => lnM rows b d a v m).map V.str))) ∧ (∃ x9 x10 x11, σ = [some (.ref l), some (.ref bx), some (.int d), some (.int a), some (.ref t2), some (.ref D), some (.int (v : Int)), some (.str r), some (.ref S), x9, x10, x11]) ∧ H' S = some (.lst (((List.range j).map fun u => sgM rows b d a v u).map V.str))) ⟨⟨s05.trans s6, s6 _ _ (s5 _ _ hl4), s6 _ _ (s5 _ _ ht4), s6 _ _ (s5 _ _ d4)⟩, ⟨_, _, _, rfl⟩, e6⟩ (fun _ _ _ _ _ => trivial) ?_ ?_
        · rintro u y σ H7 H7' hu ⟨⟨s7, hl7, ht7, d7⟩, ⟨x9, x10, x11, rfl⟩, e7⟩ ⟨T2, c, rfl, nT2, hc, rfl⟩
          have um : u < m := by
            have : u < r.length := hu
            omega
          have hc' : r.cps.toList[u]? = some c := by rw [Array.getElem?_toList]; exact hc
          have s8 := same_new nT2 (.tup [.int (u : Int), .str ⟨#[c]⟩])
          have e8 : upd H7 T2 (.tup [.int (u : Int), .str ⟨#[c]⟩]) T2 = some (.tup [.int (u : Int), .str ⟨#[c]⟩]) := upd_same
          generalize upd H7 T2 (.tup [.int (u : Int), .str ⟨#[c]⟩]) = H8 at s8 e8 ⊢
          refine ⟨T2, _, rfl, SqT.of e8, rfl, _, _, rfl, _, _, rfl, rfl, ?_⟩
          have s78 := s7.trans s8
          have hl8 := s8 _ _ hl7
          have ht8 := s8 _ _ ht7
          have d8 := s8 _ _ d7
          have e8S := s8 _ _ e7
          -- the sign itself
          have put : ∀ H9, Same H8 H9 → ∀ y : Str, y = sgM rows b d a v u → ∀ (x11' : Option V), (Same H (upd H9 S (.lst (((List.range u).map fun u => sgM rows b d a v u).map V.str ++ [.str y]))) ∧ upd H9 S (.lst (((List.range u).map fun u => sgM rows b d a v u).map V.str ++ [.str y])) l = some (.lst (rows.map V.str)) ∧ upd H9 S (.lst (((List.range u).map fun u => sgM rows b d a v u).map V.str ++ [.str y])) t2 = some (.tup (boxL b)) ∧ upd H9 S (.lst (((List.range u).map fun u => sgM rows b d a v u).map V.str ++ [.str y])) D = some (.lst (((List.range v).map fun v => lnM rows b d a v m).map V.str))) ∧ upd H9 S (.lst (((List.range u).map fun u => sgM rows b d a v u).map V.str ++ [.str y])) S = some (.lst (((List.range (u + 1)).map fun u => sgM rows b d a v u).map V.str)) := fun H9 s9 y ey _ => by
            refine ⟨⟨fun b' o' z' => ?_, ?_, ?_, ?_⟩, ?_⟩
            · rw [upd_ne (ne_of_none z' nS)]
              exact s9 _ _ (s78 _ _ z')
            · rw [upd_ne Sl]
              exact s9 _ _ hl8
            · rw [upd_ne St]
              exact s9 _ _ ht8
            · rw [upd_ne SD]
              exact s9 _ _ d8
            · rw [upd_same, List.range_succ, List.map_append, List.map_append, ey]
              rfl
          have sl : (((List.range u).map fun u => sgM rows b d a v u).map V.str).length < sizeLine := Nat.lt_of_le_of_lt (by rw [List.length_map, List.length_map, List.length_range]; show u ≤ 1000; omega) (show 1000 < sizeLine by decide)
          have plain : ¬ mvM b d a v u → (⟨#[c]⟩ : Str) = sgM rows b d a v u := fun q => by
            unfold sgM
            rw [if_neg q]
            exact (one_char hr hc').symm
          refine ⟨_, rfl, _, rfl, _, rfl, t2, b, (v : Int), (u : Int), rfl, ht8, fun H9 s9 => ⟨_, rfl, ?_⟩⟩
          rw [has_in]
          refine ite2 (fun c1 => ?_) (fun c1 => ?_)
          · have c1' : inB b v u := of_decide_eq_true c1
            refine ⟨_, rfl, _, rfl, _, rfl, _, _, rfl, rfl, _, rfl, _, rfl, _, _, rfl, rfl, t2, b, (v : Int) + d, (u : Int) + a, rfl, s9 _ _ ht8, fun H10 s10 => ?_⟩
            rw [has_in]
            have s910 := s9.trans s10
            have e10 := s910 _ _ e8S
            refine ⟨_, rfl, .inl ⟨rfl, _, .inl (.inl e10)⟩, _, rfl, _, rfl, ?_⟩
            refine ite2 (fun c2 => ?_) (fun c2 => ?_)
            · have c2' : inB b ((v : Int) + d) ((u : Int) + a) := of_decide_eq_true c2
              have mv : mvM b d a v u := ⟨c1', c2'⟩
              unfold inB at c2'
              obtain ⟨r2, er2, mr2, ar2⟩ := strs_at (rows := rows) (i := (v : Int) + d) (n := n) (by omega) (by omega) Rl
              have rm2 := R.2 r2 mr2
              obtain ⟨c3, ec3, ac3⟩ := str_at (z := r2) (i := (u : Int) + a) (n := m) (by omega) (by omega) rm2
              refine ⟨_, rfl, _, rfl, _, rfl, _, _, rfl, rfl, _, _, _, _, rfl, rfl, SqL.of (s910 _ _ hl8), ar2, _, rfl, _, rfl, _, _, rfl, rfl, _, _, _, rfl, rfl, small (by omega), ac3, S, _, _, rfl, rfl, e10, sl, ?_⟩
              have hy : (⟨#[c3]⟩ : Str) = sgM rows b d a v u := by
                unfold sgM
                rw [if_pos mv]
                exact (one_char er2 ec3).symm
              have pp := put _ s910 _ hy none
              exact ⟨pp.1, ⟨_, _, _, rfl⟩, pp.2⟩
            · have c2' : ¬ inB b ((v : Int) + d) ((u : Int) + a) := fun q => c2 (decide_eq_true q)
              refine ⟨_, rfl, S, _, _, rfl, rfl, e10, sl, ?_⟩
              have pp := put _ s910 _ (plain fun q => c2' q.2) none
              exact ⟨pp.1, ⟨_, _, _, rfl⟩, pp.2⟩
          · have c1' : ¬ inB b v u := fun q => c1 (decide_eq_true q)
            have e9 := s9 _ _ e8S
            refine ⟨_, rfl, .inl ⟨rfl, _, .inl (.inl e9)⟩, _, rfl, _, rfl, ?_⟩
            refine ifF (by simp) ?_
            refine ⟨_, rfl, S, _, _, rfl, rfl, e9, sl, ?_⟩
            have pp := put _ s9 _ (plain fun q => c1' q.1) none
            exact ⟨pp.1, ⟨_, _, _, rfl⟩, pp.2⟩
        · rintro σ H7 ⟨⟨s7, hl7, ht7, d7⟩, ⟨x9, x10, x11, rfl⟩, e7⟩
          have er : r.cps.size = m := rm
          rw [er] at e7
          refine ⟨_, rfl, .inl ⟨rfl, _, .inl (.inl d7)⟩, rfl, _, rfl, "", S, ((List.range m).map fun u => sgM rows b d a v u), rfl, rfl, .inl (SqL.of e7), ?_, ?_⟩
          · have e0 : ("" : Str).length = 0 := by decide +kernel
            rw [e0, Nat.mul_zero, Nat.add_zero]
            have : ∀ zs : List Nat, ((zs.map fun u => sgM rows b d a v u).map (·.length)).sum = zs.length := fun zs => by
              induction zs with
              | nil => rfl
              | cons q r ih =>
                simp only [List.map_cons, List.sum_cons, List.length_cons]
                rw [ih, sg_one]
                omega
            rw [this, List.length_range]
            omega
          refine ⟨D, _, _, rfl, rfl, d7, ?_, ?_⟩
          · refine Nat.lt_of_le_of_lt ?_ (show 1000 < sizeLine by decide)
            rw [List.length_map, List.length_map, List.length_range]
            omega
          refine ⟨⟨fun b' o' z' => ?_, ?_, ?_⟩, ⟨_, _, _, _, _, _, rfl⟩, ?_⟩
          · rw [upd_ne (ne_of_none z' nD)]
            exact s7 _ _ z'
          · rw [upd_ne Dl]
            exact hl7
          · rw [upd_ne Dt]
            exact ht7
          · rw [upd_same, List.range_succ, List.map_append, List.map_append]
            rfl
    rintro σ H4 ⟨⟨s4, hl4, ht4⟩, ⟨x6, x7, x8, x9, x10, x11, rfl⟩, d4⟩
    rw [List.length_map, Rl] at d4
    exact ⟨_, rfl, k D H4 s4 d4⟩
abbrev s_behind_steps : Stmt := top 8
theorem sc_behind_steps : FnScope ["rows", "some", "drawn", "word", "v", "u", "rest", "high", "wide", "down", "across"] ["rows", "some"] (defScope s_behind_steps) := ⟨rfl, rfl, rfl, by decide +kernel, rfl, by decide +kernel, by decide +kernel⟩
theorem ok_behind_steps (F : Fun K "behind_steps" "behind_steps" s_behind_steps f fd) (T : Tx K mg tP) (D_behind_put : Dn P w K mg base CX0 2 "behind_put" ["rows", "v", "u", "text"] spBPut) (D_behind_shift : Dn P w K mg base CX0 4 "behind_shift" ["rows", "stretch", "down", "across"] spBShift) : FnOk P w K mg base CX0 5 f fd ["rows", "some"] spSteps := by
  refine F.ok sc_behind_steps (fun vs H Q E h => ?_) (fun cdv A outer s H vs Q E hr h => ?_)
  · obtain ⟨l, q, rows, xs, ss, n, m, rfl, _⟩ := h
    rfl
  · obtain ⟨l, q, rows, xs, ss, n, m, rfl, hl, hq, SA, R, n0, n1, m1, gs, sl, k⟩ := h
    refine ⟨_, (pss_cons (ps_set (i := 2) sc_behind_steps.nd rfl (.inl rfl) (pe_callTy call_list_of (by rfl) T.no_list (by decide +kernel) (pa_cons (pv 0) pa_nil)))
      (pss_cons (ps_for PassesOwn.never rfl (pi_list (pv 1)) (pg_tupS (by rfl) (pgs_cons (pg_name (i := 3) sc_behind_steps.nd rfl (.inl rfl)) (pgs_cons (pg_name (i := 4) sc_behind_steps.nd rfl (.inl rfl)) (pgs_cons (pg_name (i := 5) sc_behind_steps.nd rfl (.inl rfl)) (pgs_star (pg_name (i := 6) sc_behind_steps.nd rfl (.inl rfl)))))))
        (pss_one (ps_if (pt_cmpR op_eq (pv 3) (glS (by rfl) T.mg_PUT) (nomark _)) (pss_one (ps_set (i := 2) sc_behind_steps.nd rfl (.inl rfl) (pe_callD D_behind_put (hr.mono (by omega)) (by rfl) pass0 (pa_cons (pv 2) (pa_cons (pv 4) (pa_cons (pv 5) (pa_cons (pe_ix ix_list (pv 6) pe_int (fun _ _ => rfl)) pa_nil))))))) (pss_cons (ps_asg (pv 6) (pg_lst (by rfl) (pgs_cons (pg_name (i := 7) sc_behind_steps.nd rfl (.inl rfl)) (pgs_cons (pg_name (i := 8) sc_behind_steps.nd rfl (.inl rfl)) (pgs_cons (pg_name (i := 9) sc_behind_steps.nd rfl (.inl rfl)) (pgs_cons (pg_name (i := 10) sc_behind_steps.nd rfl (.inl rfl)) pgs_nil))))))
          (pss_one (ps_set (i := 2) sc_behind_steps.nd rfl (.inl rfl) (pe_callD D_behind_shift (hr.mono (by omega)) (by rfl) pass0 (pa_cons (pv 2) (pa_cons (pe_tup (pa_cons (pv 4) (pa_cons (pv 5) (pa_cons (pv 7) (pa_cons (pv 8) pa_nil))))) (pa_cons (pv 9) (pa_cons (pv 10) pa_nil)))))))))))
      (pss_one (ps_ret (pv 2))))), ?_⟩
    refine ⟨_, rfl, _, _, rfl, .inl (SqL.of hl), fun l1 nl1 => ?_⟩
    have s1 := same_new nl1 (.lst (rows.map V.str))
    have e1 : upd H l1 (.lst (rows.map V.str)) l1 = some (.lst (rows.map V.str)) := upd_same
    generalize upd H l1 (.lst (rows.map V.str)) = H1 at s1 e1 ⊢
    refine ⟨_, rfl, q, rfl, ⟨_, SqL.of (s1 _ _ hq)⟩, ?_⟩
    refine for_list (K := K) (a := q) (xs := xs) (fun j σ H' => Same H H' ∧ ∃ p x3 x4 x5 x6 x7 x8 x9 x10, σ = [some (.ref l), some (.ref q), some (.ref p), x3, x4, x5, x6, x7, x8, x9, x10] ∧ H' p = some (.lst (((ss.take j).foldl (stpM n m) rows).map V.str))) ⟨s1, l1, _, _, _, _, _, _, _, _, rfl, e1⟩ (fun j σ H' _ z => SqL.of (z.1 _ _ hq)) ?_ ?_
    · rintro j y σ H2 hy ⟨s2, p, x3, x4, x5, x6, x7, x8, x9, x10, rfl, e2⟩
      obtain ⟨st, t, hst, rfl, ht⟩ := SA.at_ hy
      have g := gs st (List.mem_of_getElem? hst)
      have Rj : Rect n m ((ss.take j).foldl (stpM n m) rows) := rect_steps R fun z hz => gs z (List.mem_of_mem_take hz)
      generalize hrj : (ss.take j).foldl (stpM n m) rows = rj at Rj e2
      have fs := fold_snoc n m rows ss hst
      rw [hrj] at fs
      cases st with
      | put v u tx =>
        refine ⟨t, _, rfl, SqT.of (s2 _ _ ht), (by show 3 ≤ 4; decide), (by show 4 ≤ 1000; decide), fun rp nrp => ?_⟩
        have s3 := same_new nrp (.lst [.str tx])
        have e3 : upd H2 rp (.lst [.str tx]) rp = some (.lst [.str tx]) := upd_same
        show gCons (gName 3) _ [.str "put", .int v, .int u, .ref rp] _ (upd H2 rp (.lst [.str tx])) _
        generalize upd H2 rp (.lst [.str tx]) = H3 at s3 e3 ⊢
        refine ⟨_, _, rfl, _, _, rfl, _, _, rfl, _, _, rfl, rfl, ?_⟩
        refine ⟨_, rfl, rfl, _, rfl, ?_⟩
        refine ifT (decide_eq_true rfl) ?_
        refine ⟨_, rfl, _, rfl, _, rfl, _, rfl, _, _, _, _, rfl, rfl, SqL.of e3, atI_nat (j := 0) rfl, p, v, u, tx, rj, n, m, rfl, s3 _ _ e2, Rj, n1, m1, g, fun p2 H4 s4 e4 => ?_⟩
        exact ⟨s2.trans (s3.trans s4), p2, _, _, _, _, _, _, _, _, rfl, by rw [fs]; exact e4⟩
      | shift v u hh ww dd aa =>
        refine ⟨t, _, rfl, SqT.of (s2 _ _ ht), (by show 3 ≤ 7; decide), (by show 7 ≤ 1000; decide), fun rp nrp => ?_⟩
        have s3 := same_new nrp (.lst [.int hh, .int ww, .int dd, .int aa])
        have e3 : upd H2 rp (.lst [.int hh, .int ww, .int dd, .int aa]) rp = some (.lst [.int hh, .int ww, .int dd, .int aa]) := upd_same
        show gCons (gName 3) _ [.str "shift", .int v, .int u, .ref rp] _ (upd H2 rp (.lst [.int hh, .int ww, .int dd, .int aa])) _
        generalize upd H2 rp (.lst [.int hh, .int ww, .int dd, .int aa]) = H3 at s3 e3 ⊢
        refine ⟨_, _, rfl, _, _, rfl, _, _, rfl, _, _, rfl, rfl, ?_⟩
        refine ⟨_, rfl, rfl, _, rfl, ?_⟩
        have ne : ¬ V.str "shift" = V.str "put" := fun e => by
          have e' : ("shift" : Str) = "put" := by injection e
          exact absurd e' (by decide +kernel)
        refine ifF (by rw [decide_eq_false ne]; simp) ?_
        refine ⟨_, rfl, rp, _, rfl, SqL.of e3, rfl, _, _, rfl, _, _, rfl, _, _, rfl, _, _, rfl, rfl, ?_⟩
        refine ⟨_, rfl, _, rfl, _, rfl, _, rfl, _, rfl, (by show 4 ≤ sizeLine; decide), fun bx nb => ?_⟩
        have s4 := same_new nb (.tup (boxL ⟨v, u, hh, ww⟩))
        refine ⟨_, rfl, _, rfl, p, bx, ⟨v, u, hh, ww⟩, dd, aa, rj, n, m, rfl, s4 _ _ (s3 _ _ e2), upd_same, Rj, n1, m1, g, fun p2 H5 s5 e5 => ?_⟩
        exact ⟨s2.trans (s3.trans (s4.trans s5)), p2, _, _, _, _, _, _, _, _, rfl, by rw [fs]; exact e5⟩
    rintro σ H2 ⟨s2, p, x3, x4, x5, x6, x7, x8, x9, x10, rfl, e2⟩
    have xl := SA.len
    rw [xl, List.take_length] at e2
    exact ⟨_, rfl, k p H2 s2 e2⟩
end
end K27

set_option Elab.async false
set_option linter.all false
set_option maxRecDepth 100000
set_option maxHeartbeats 4000000
namespace K27
open PySem L2 Gs
section
variable {P : Program} {w : World} {K : PySem.W.Frag} {mg : Str → Option Value} {base : Heap} {f : Addr} {fd : FuncData} {tP : Tok}
abbrev s_one : Stmt := top 12
theorem sc_one : FnScope ["_law_draw", "_law_some"] ["_law_draw", "_law_some"] (defScope s_one) := ⟨rfl, rfl, rfl, by decide +kernel, rfl, by decide +kernel, by decide +kernel⟩
theorem ok_one (F : Fun K "_law_one" "_law_one" s_one f fd) (T : Tx K mg tP) (D_pick : Dn P w K mg base CX0 1 "_law_pick" ["_law_draw", "_law_many"] spPickL) : FnOk P w K mg base CX0 2 f fd ["_law_draw", "_law_some"] spOneT := by
  refine F.ok sc_one (fun vs H Q E h => ?_) (fun cdv A outer s H vs Q E hr h => ?_)
  · obtain ⟨a, l, z, rfl, _⟩ := h
    rfl
  · obtain ⟨a, l, z, rfl, D0, z1, z2, zo, k⟩ := h
    refine ⟨_, (pss_one (ps_ret (pe_ix ix_str (pv 1) (pe_callD D_pick (hr.mono (by omega)) (by rfl) pass0 (pa_cons (pv 0) (pa_cons (pe_callB call_len_str (by rfl) T.no_len (by decide +kernel) (pa_cons (pv 1) pa_nil)) pa_nil))) (fun _ _ => rfl)))), ?_⟩
    refine ⟨_, rfl, _, rfl, _, rfl, z, rfl, small z2, a, l, _, rfl, D0, by omega, by omega, fun r H1 p1 q1 D1 e1 => ?_⟩
    have hk : r.toNat < z.cps.toList.length := by
      rw [Array.length_toList]
      show r.toNat < z.length
      omega
    have ek : atI z.cps.toList r = some z.cps.toList[r.toNat] := by
      have e : r = ((r.toNat : Nat) : Int) := by omega
      have := atI_nat (xs := z.cps.toList) (j := r.toNat) (List.getElem?_eq_getElem hk)
      rw [← e] at this
      exact this
    exact ⟨_, _, _, rfl, rfl, small z2, ek, k _ H1 rfl (zo.one ek) D1 e1⟩
abbrev s_step_on : Stmt := top 14
theorem sc_step_on : FnScope ["_law_rows", "_law_one_here", "_law_v", "_law_u", "_law_text", "_law_line", "_law_top", "_law_left", "_law_tall", "_law_room", "_law_down", "_law_across", "_law_found", "_law_good", "_law_y", "_law_x"] ["_law_rows", "_law_one_here"] (defScope s_step_on) := ⟨rfl, rfl, rfl, by decide +kernel, rfl, by decide +kernel, by decide +kernel⟩
theorem ok_step_on (F : Fun K "_law_step_on" "_law_step_on" s_step_on f fd) (T : Tx K mg tP)  : FnOk P w K mg base CX0 2 f fd ["_law_rows", "_law_one_here"] spStepOn := by
  refine F.ok sc_step_on (fun vs H Q E h => ?_) (fun cdv A outer s H vs Q E hr h => ?_)
  · obtain ⟨l, q, rows, st, n, m, rfl, _⟩ := h
    rfl
  · obtain ⟨l, q, rows, st, n, m, rfl, hl, hq, R, n0, n1, m1, g, k⟩ := h
    refine ⟨_, (pss_cons (ps_if (pt_cmpR op_eq (pe_ix ix_tup (pv 1) pe_int (fun _ _ => rfl)) pe_str (nomark _)) (pss_cons (ps_asg (pe_slice sl_tup (pv 1) (po_some pe_int) po_none) (pg_tup (by rfl) (pgs_cons (pg_name (i := 2) sc_step_on.nd rfl (.inl rfl)) (pgs_cons (pg_name (i := 3) sc_step_on.nd rfl (.inl rfl)) (pgs_cons (pg_name (i := 4) sc_step_on.nd rfl (.inl rfl)) pgs_nil)))))
        (pss_cons (ps_set (i := 5) sc_step_on.nd rfl (.inl rfl) (pe_op op_add_str (pe_op op_add_str (pe_slice sl_str (pe_ix ix_list (pv 0) (pv 2) (fun _ _ => rfl)) po_none (po_some (pv 3))) (pv 4)) (pe_slice sl_str (pe_ix ix_list (pv 0) (pv 2) (fun _ _ => rfl)) (po_some (pe_op op_add (pv 3) (pe_callB call_len_str (by rfl) T.no_len (by decide +kernel) (pa_cons (pv 4) pa_nil)))) po_none)))
        (pss_one (ps_ret (pe_op op_cat (pe_op op_cat (pe_slice sl_list (pv 0) po_none (po_some (pv 2))) (pe_lst (pa_cons (pv 5) pa_nil))) (pe_slice sl_list (pv 0) (po_some (pe_op op_add (pv 2) pe_int)) po_none)))))) pss_nil)
      (pss_cons (ps_asg (pe_slice sl_tup (pv 1) (po_some pe_int) po_none) (pg_tup (by rfl) (pgs_cons (pg_name (i := 6) sc_step_on.nd rfl (.inl rfl)) (pgs_cons (pg_name (i := 7) sc_step_on.nd rfl (.inl rfl)) (pgs_cons (pg_name (i := 8) sc_step_on.nd rfl (.inl rfl)) (pgs_cons (pg_name (i := 9) sc_step_on.nd rfl (.inl rfl)) (pgs_cons (pg_name (i := 10) sc_step_on.nd rfl (.inl rfl)) (pgs_cons (pg_name (i := 11) sc_step_on.nd rfl (.inl rfl)) pgs_nil))))))))
      (pss_cons (ps_set (i := 12) sc_step_on.nd rfl (.inl rfl) (pe_lst pa_nil))
      (pss_cons (ps_for PassesOwn.never rfl (pi_range1 (by rfl) T.no_range (pa_cons (pe_callB call_len_seq (by rfl) T.no_len (by decide +kernel) (pa_cons (pv 0) pa_nil)) pa_nil)) (pg_name (i := 2) sc_step_on.nd rfl (.inl rfl))
        (pss_cons (ps_set (i := 5) sc_step_on.nd rfl (.inl rfl) pe_str)
        (pss_cons (ps_for PassesOwn.never rfl (pi_range1 (by rfl) T.no_range (pa_cons (pe_callB call_len_str (by rfl) T.no_len (by decide +kernel) (pa_cons (pe_ix ix_list (pv 0) (pv 2) (fun _ _ => rfl)) pa_nil)) pa_nil)) (pg_name (i := 3) sc_step_on.nd rfl (.inl rfl))
          (C8.pss_cut (ps_set (i := 13) sc_step_on.nd rfl (.inl rfl) (pe_and (pe_chain op_le op_lt (pv 6) (pv 2) (pe_op op_add (pv 6) (pv 8))) (pe_one (pe_chain op_le op_lt (pv 7) (pv 3) (pe_op op_add (pv 7) (pv 9))))))
          (C8.pss_cut (ps_set (i := 13) sc_step_on.nd rfl (.inl rfl) (pe_and (pv 13) (pe_and (pe_chain op_le op_lt (pv 6) (pe_op op_add (pv 2) (pv 10)) (pe_op op_add (pv 6) (pv 8))) (pe_one (pe_chain op_le op_lt (pv 7) (pe_op op_add (pv 3) (pv 11)) (pe_op op_add (pv 7) (pv 9)))))))
          (pss_cons (ps_asg (pe_ifExp (pt_val (pv 13)) (pe_tup (pa_cons (pe_op op_add (pv 2) (pv 10)) (pa_cons (pe_op op_add (pv 3) (pv 11)) pa_nil))) (pe_tup (pa_cons (pv 2) (pa_cons (pv 3) pa_nil)))) (pg_tup (by rfl) (pgs_cons (pg_name (i := 14) sc_step_on.nd rfl (.inl rfl)) (pgs_cons (pg_name (i := 15) sc_step_on.nd rfl (.inl rfl)) pgs_nil))))
          (pss_one (ps_set (i := 5) sc_step_on.nd rfl (.inl rfl) (pe_op op_add_str (pv 5) (pe_ix ix_str (pe_ix ix_list (pv 0) (pv 14) (fun _ _ => rfl)) (pv 15) (fun _ _ => rfl)))))))))
        (pss_one (ps_expr (pe_bm PySem.F.plainAttrs_list PySem.F.slot_list_append PySem.F.type_list_append mt_append (pv 12) (pa_cons (pv 5) pa_nil)))))))
      (pss_one (ps_ret (pv 12))))))), ?_⟩
    have Rl := R.1
    cases st with
    | put v u tx =>
      obtain ⟨g1, g2, g3, g4⟩ := id g
      obtain ⟨r, er, mr, ar⟩ := strs_at (rows := rows) (i := v) (n := n) g1 g2 Rl
      have rm := R.2 r mr
      have lz : r.length ≤ sizeLine := small (by omega)
      have lt : tx.length ≤ sizeLine := small (by omega)
      have c0 := cut_len0 (x := r) g3 (by omega)
      have c1 := cut_len1 (x := r) (u := u + tx.length) (by omega) (by omega)
      refine ⟨_, rfl, _, _, _, _, rfl, rfl, SqT.of hq, atI_nat (j := 0) rfl, rfl, _, rfl, ?_⟩
      refine ifT (decide_eq_true rfl) ?_
      refine ⟨_, rfl, _, rfl, q, _, rfl, SqT.of hq, (by intro z; exact absurd z.1 (show ¬ HT.sIx 4 0 (some 1) = 0 by decide)), fun t1 nt1 => ?_⟩
      have s1 := same_new nt1 (.tup [.int v, .int u, .str tx])
      have e1 : upd H t1 (.tup [.int v, .int u, .str tx]) t1 = some (.tup [.int v, .int u, .str tx]) := upd_same
      show gTup K 3 _ (.ref t1) _ (upd H t1 (.tup [.int v, .int u, .str tx])) _
      generalize upd H t1 (.tup [.int v, .int u, .str tx]) = H1 at s1 e1 ⊢
      have hl1 := s1 _ _ hl
      refine ⟨t1, _, rfl, SqT.of e1, rfl, _, _, rfl, _, _, rfl, _, _, rfl, rfl, ?_⟩
      refine ⟨_, rfl, _, rfl, _, _, _, _, rfl, rfl, SqL.of hl1, ar, _, rfl, _, rfl, _, rfl, lz, _, rfl, _, _, rfl, rfl, small (by omega), _, rfl, _, rfl, _, _, _, _, rfl, rfl, SqL.of hl1, ar, _, rfl, _, rfl, _, rfl, lt, _, _, rfl, rfl, _, rfl, _, rfl, lz, _, _, rfl, rfl, small (by rw [PySem.Str.length_append]; omega), ?_⟩
      show gName 5 (V.str (wpM r u tx)) _ _ _
      refine ⟨_, rfl, _, rfl, _, rfl, l, _, rfl, SqL.of hl1, fun p2 np2 => ?_⟩
      have s2 := same_new np2 (.lst (cutV (rows.map V.str) none (some v)))
      have e2 : upd H1 p2 (.lst (cutV (rows.map V.str) none (some v))) p2 = some (.lst (cutV (rows.map V.str) none (some v))) := upd_same
      generalize upd H1 p2 (.lst (cutV (rows.map V.str) none (some v))) = H2 at s2 e2 ⊢
      refine ⟨_, rfl, (by show 1 ≤ sizeLine; decide), fun p3 np3 => ?_⟩
      have s3 := same_new np3 (.lst [.str (wpM r u tx)])
      have e3 : upd H2 p3 (.lst [.str (wpM r u tx)]) p3 = some (.lst [.str (wpM r u tx)]) := upd_same
      obtain ⟨H3, eH3⟩ : ∃ H3, H3 = upd H2 p3 (.lst [.str (wpM r u tx)]) := ⟨_, rfl⟩
      have tk : (cutV (rows.map V.str) none (some v)).length ≤ 400 := by
        rw [cutV_take g1 (by rw [List.length_map]; omega), List.length_take, List.length_map]
        omega
      have dr : (cutV (rows.map V.str) (some (v + 1)) none).length ≤ 400 := by
        rw [cutV_drop (by omega) (by rw [List.length_map]; omega), List.length_drop, List.length_map]
        omega
      refine ⟨_, _, _, _, rfl, rfl, s3 _ _ e2, e3, small (by show _ + 1 ≤ 1000; omega), fun p4 np4 => ?_⟩
      rw [← eH3] at s3 e3
      have s4 : Same H3 (upd H3 p4 (.lst (cutV (rows.map V.str) none (some v) ++ [.str (wpM r u tx)]))) := same_new (by rw [eH3]; exact np4) _
      have e4 : upd H3 p4 (.lst (cutV (rows.map V.str) none (some v) ++ [.str (wpM r u tx)])) p4 = some (.lst (cutV (rows.map V.str) none (some v) ++ [.str (wpM r u tx)])) := upd_same
      rw [← eH3]
      generalize upd H3 p4 (.lst (cutV (rows.map V.str) none (some v) ++ [.str (wpM r u tx)])) = H4 at s4 e4 ⊢
      have s14 := s1.trans (s2.trans (s3.trans s4))
      refine ⟨_, rfl, _, rfl, _, _, rfl, rfl, _, rfl, l, _, rfl, SqL.of (s14 _ _ hl), fun p5 np5 => ?_⟩
      have s5 := same_new np5 (.lst (cutV (rows.map V.str) (some (v + 1)) none))
      refine ⟨_, _, _, _, rfl, rfl, s5 _ _ e4, upd_same, small (by rw [List.length_append]; show _ + 1 + _ ≤ 1000; omega), fun p6 np6 => ?_⟩
      refine k p6 _ (s14.trans (s5.trans (same_new np6 _))) ?_
      rw [upd_same, put_parts R g er]
      rfl
    | shift v0 u0 hh ww dd aa =>
      obtain ⟨g1, g2, g3, g4, g5, g6⟩ := g
      have ne : ¬ V.str "shift" = V.str "put" := fun e => by
        have e' : ("shift" : Str) = "put" := by injection e
        exact absurd e' (by decide +kernel)
      refine ⟨_, rfl, _, _, _, _, rfl, rfl, SqT.of hq, atI_nat (j := 0) rfl, rfl, _, rfl, ?_⟩
      refine ifF (by rw [decide_eq_false ne]; simp) ?_
      refine ⟨_, rfl, _, rfl, q, _, rfl, SqT.of hq, (by intro z; exact absurd z.1 (show ¬ HT.sIx 7 0 (some 1) = 0 by decide)), fun t1 nt1 => ?_⟩
      have s1 := same_new nt1 (.tup [.int v0, .int u0, .int hh, .int ww, .int dd, .int aa])
      have e1 : upd H t1 (.tup [.int v0, .int u0, .int hh, .int ww, .int dd, .int aa]) t1 = some (.tup [.int v0, .int u0, .int hh, .int ww, .int dd, .int aa]) := upd_same
      show gTup K 6 _ (.ref t1) _ (upd H t1 (.tup [.int v0, .int u0, .int hh, .int ww, .int dd, .int aa])) _
      generalize upd H t1 (.tup [.int v0, .int u0, .int hh, .int ww, .int dd, .int aa]) = H1 at s1 e1 ⊢
      refine ⟨t1, _, rfl, SqT.of e1, rfl, _, _, rfl, _, _, rfl, _, _, rfl, _, _, rfl, _, _, rfl, _, _, rfl, rfl, ?_⟩
      refine ⟨(by show 0 ≤ sizeLine; decide), fun D hD => ?_⟩
      have s2 := same_new hD (.lst [])
      have e2 : upd H1 D (.lst []) D = some (.lst []) := upd_same
      have nD : H D = none := s1.free hD
      have lD : l ≠ D := ne_of_none (s1 _ _ hl) hD
      generalize upd H1 D (.lst []) = H2 at s2 e2 ⊢
      have hl2 := s2 _ _ (s1 _ _ hl)
      obtain ⟨b, eb⟩ : ∃ b : Bx, b = ⟨v0, u0, hh, ww⟩ := ⟨_, rfl⟩
      have el : ((rows.map V.str).length : Int).toNat = n := by rw [List.length_map, Rl]; omega
      refine ⟨_, rfl, _, _, rfl, .inl (SqL.of hl2), _, rfl, by rw [List.length_map]; omega, by rw [List.length_map]; omega, ?_⟩
      rw [el]
      refine for_range (lo := 0) (n := n) (fun j σ H' => (Same H H' ∧ H' l = some (.lst (rows.map V.str))) ∧ (∃ x2 x3 x5 x13 x14 x15, σ = [some (.ref l), some (.ref q), x2, x3, none, x5, some (.int v0), some (.int u0), some (.int hh), some (.int ww), some (.int dd), some (.int aa), some (.ref D), x13, x14, x15]) ∧ H' D = some (.lst (((List.range j).map fun v => lnM rows b dd aa v m).map V.str))) ⟨⟨s1.trans s2, hl2⟩, ⟨_, _, _, _, _, _, rfl⟩, e2⟩ ?_ ?_
      · rintro v σ H3 hv ⟨⟨s3, hl3⟩, ⟨x2, x3, x5, x13, x14, x15, rfl⟩, d3⟩
        obtain ⟨r, er, mr, ar⟩ := strs_at (rows := rows) (i := 0 + (v : Int)) (n := n) (by omega) (by omega) Rl
        have er : rows[v]? = some r := by rw [show (0 + (v : Int)).toNat = v by omega] at er; exact er
        have rm := R.2 r mr
        have lz : r.length ≤ sizeLine := small (by omega)
        refine ⟨_, rfl, _, rfl, _, _, _, _, rfl, rfl, SqL.of hl3, ar, _, rfl, lz, _, rfl, by omega, by omega, ?_⟩
        rw [show (r.length : Int).toNat = m by omega]
        refine for_range (lo := 0) (n := m) (fun u σ H' => (Same H3 H') ∧ (∃ x3 x13 x14 x15, σ = [some (.ref l), some (.ref q), some (.int (0 + (v : Int))), x3, none, some (.str (lnM rows b dd aa v u)), some (.int v0), some (.int u0), some (.int hh), some (.int ww), some (.int dd), some (.int aa), some (.ref D), x13, x14, x15])) ⟨Same.refl _, ⟨_, _, _, _, rfl⟩⟩ ?_ ?_
        · rintro u σ H4 hu ⟨s4, x3, x13, x14, x15, rfl⟩
          have hl4 := s4 _ _ hl3
          -- within the stretch
          refine ⟨fun σ H' => H4 = H' ∧ σ = [some (.ref l), some (.ref q), some (.int (0 + (v : Int))), some (.int (0 + (u : Int))), none, some (.str (lnM rows b dd aa v u)), some (.int v0), some (.int u0), some (.int hh), some (.int ww), some (.int dd), some (.int aa), some (.ref D), some (.bl (decide (inB b v u))), x14, x15], ?_, ?_⟩
          · have ii : inB b v u ↔ (v0 ≤ 0 + (v : Int) ∧ 0 + (v : Int) < v0 + hh) ∧ (u0 ≤ 0 + (u : Int) ∧ 0 + (u : Int) < u0 + ww) := by
              rw [eb]
              unfold inB
              simp only
              omega
            have no : ¬ inB b v u → H4 = H4 ∧ [some (V.ref l), some (.ref q), some (.int (0 + (v : Int))), some (.int (0 + (u : Int))), none, some (.str (lnM rows b dd aa v u)), some (.int v0), some (.int u0), some (.int hh), some (.int ww), some (.int dd), some (.int aa), some (.ref D), some (.bl false), x14, x15] = [some (V.ref l), some (.ref q), some (.int (0 + (v : Int))), some (.int (0 + (u : Int))), none, some (.str (lnM rows b dd aa v u)), some (.int v0), some (.int u0), some (.int hh), some (.int ww), some (.int dd), some (.int aa), some (.ref D), some (.bl (decide (inB b v u))), x14, x15] := fun q => ⟨rfl, by rw [decide_eq_false q]⟩
            refine ⟨_, rfl, _, rfl, _, _, rfl, rfl, _, rfl, ?_⟩
            refine ite2 (fun c1 => ?_) (fun c1 => ?_)
            · have c1' : v0 ≤ 0 + (v : Int) := of_decide_eq_true c1
              refine ⟨_, rfl, _, rfl, _, _, rfl, rfl, _, _, rfl, rfl, _, rfl, ?_⟩
              refine ite2 (fun c2 => ?_) (fun c2 => ?_)
              · have c2' : 0 + (v : Int) < v0 + hh := of_decide_eq_true c2
                refine ⟨_, rfl, _, rfl, _, _, rfl, rfl, _, rfl, ?_⟩
                refine ite2 (fun c3 => ?_) (fun c3 => ?_)
                · have c3' : u0 ≤ 0 + (u : Int) := of_decide_eq_true c3
                  refine ⟨_, rfl, _, rfl, _, _, rfl, rfl, _, _, rfl, rfl, rfl, ?_⟩
                  have e4 : decide (0 + (u : Int) < u0 + ww) = decide (inB b v u) := decide_eq_decide.mpr (by rw [ii]; constructor <;> intro z <;> omega)
                  rw [← e4]
                  rfl
                · have c3' : ¬ u0 ≤ 0 + (u : Int) := fun z => c3 (decide_eq_true z)
                  exact no (by rw [ii]; omega)
              · have c2' : ¬ 0 + (v : Int) < v0 + hh := fun z => c2 (decide_eq_true z)
                exact no (by rw [ii]; omega)
            · have c1' : ¬ v0 ≤ 0 + (v : Int) := fun z => c1 (decide_eq_true z)
              refine ⟨_, rfl, ?_⟩
              refine ifF (by simp) ?_
              exact no (by rw [ii]; omega)
          rintro σ H4' ⟨rfl, rfl⟩
          -- .. and what it is shifted from
          refine ⟨fun σ H' => H4 = H' ∧ σ = [some (.ref l), some (.ref q), some (.int (0 + (v : Int))), some (.int (0 + (u : Int))), none, some (.str (lnM rows b dd aa v u)), some (.int v0), some (.int u0), some (.int hh), some (.int ww), some (.int dd), some (.int aa), some (.ref D), some (.bl (decide (mvM b dd aa v u))), x14, x15], ?_, ?_⟩
          · have ii : inB b ((v : Int) + dd) ((u : Int) + aa) ↔ (v0 ≤ 0 + (v : Int) + dd ∧ 0 + (v : Int) + dd < v0 + hh) ∧ (u0 ≤ 0 + (u : Int) + aa ∧ 0 + (u : Int) + aa < u0 + ww) := by
              rw [eb]
              unfold inB
              simp only
              omega
            have no : ¬ mvM b dd aa v u → H4 = H4 ∧ [some (V.ref l), some (.ref q), some (.int (0 + (v : Int))), some (.int (0 + (u : Int))), none, some (.str (lnM rows b dd aa v u)), some (.int v0), some (.int u0), some (.int hh), some (.int ww), some (.int dd), some (.int aa), some (.ref D), some (.bl false), x14, x15] = [some (V.ref l), some (.ref q), some (.int (0 + (v : Int))), some (.int (0 + (u : Int))), none, some (.str (lnM rows b dd aa v u)), some (.int v0), some (.int u0), some (.int hh), some (.int ww), some (.int dd), some (.int aa), some (.ref D), some (.bl (decide (mvM b dd aa v u))), x14, x15] := fun q => ⟨rfl, by rw [decide_eq_false q]⟩
            refine ⟨_, rfl, _, rfl, ?_⟩
            refine ite2 (fun c0 => ?_) (fun c0 => ?_)
            · have c0' : inB b v u := of_decide_eq_true c0
              refine ⟨_, rfl, _, rfl, _, rfl, _, _, rfl, rfl, _, _, rfl, rfl, _, rfl, ?_⟩
              refine ite2 (fun c1 => ?_) (fun c1 => ?_)
              · have c1' : v0 ≤ 0 + (v : Int) + dd := of_decide_eq_true c1
                refine ⟨_, rfl, _, rfl, _, _, rfl, rfl, _, _, rfl, rfl, _, rfl, ?_⟩
                refine ite2 (fun c2 => ?_) (fun c2 => ?_)
                · have c2' : 0 + (v : Int) + dd < v0 + hh := of_decide_eq_true c2
                  refine ⟨_, rfl, _, rfl, _, rfl, _, _, rfl, rfl, _, _, rfl, rfl, _, rfl, ?_⟩
                  refine ite2 (fun c3 => ?_) (fun c3 => ?_)
                  · have c3' : u0 ≤ 0 + (u : Int) + aa := of_decide_eq_true c3
                    refine ⟨_, rfl, _, rfl, _, _, rfl, rfl, _, _, rfl, rfl, rfl, ?_⟩
                    have e4 : decide (0 + (u : Int) + aa < u0 + ww) = decide (mvM b dd aa v u) := decide_eq_decide.mpr (by unfold mvM; rw [ii]; exact ⟨fun z => ⟨c0', ⟨c1', c2'⟩, c3', z⟩, fun z => z.2.2.2⟩)
                    rw [← e4]
                    rfl
                  · have c3' : ¬ u0 ≤ 0 + (u : Int) + aa := fun z => c3 (decide_eq_true z)
                    exact no (by unfold mvM; rw [ii]; exact fun z => c3' z.2.2.1)
                · have c2' : ¬ 0 + (v : Int) + dd < v0 + hh := fun z => c2 (decide_eq_true z)
                  exact no (by unfold mvM; rw [ii]; exact fun z => c2' z.2.1.2)
              · have c1' : ¬ v0 ≤ 0 + (v : Int) + dd := fun z => c1 (decide_eq_true z)
                refine ⟨_, rfl, ?_⟩
                refine ifF (by simp) ?_
                exact no (by unfold mvM; rw [ii]; exact fun z => c1' z.2.1.1)
            · have c0' : ¬ inB b v u := fun z => c0 (decide_eq_true z)
              exact no (fun z => c0' z.1)
          rintro σ H4' ⟨rfl, rfl⟩
          have ll : (lnM rows b dd aa v u).length = u := ln_len _ _ _ _ _ _
          refine ⟨_, rfl, _, rfl, ?_⟩
          refine ite2 (fun c => ?_) (fun c => ?_)
          · have mv : mvM b dd aa v u := of_decide_eq_true c
            have c2' := mv.2
            rw [eb] at c2'
            unfold inB at c2'
            simp only at c2'
            obtain ⟨r2, er2, mr2, ar2⟩ := strs_at (rows := rows) (i := 0 + (v : Int) + dd) (n := n) (by omega) (by omega) Rl
            have rm2 := R.2 r2 mr2
            obtain ⟨c3, ec3, ac3⟩ := str_at (z := r2) (i := 0 + (u : Int) + aa) (n := m) (by omega) (by omega) rm2
            refine ⟨_, rfl, _, rfl, _, _, rfl, rfl, _, rfl, _, rfl, _, _, rfl, rfl, (by show 2 ≤ sizeLine; decide), fun t5 nt5 => ?_⟩
            have s5 := same_new nt5 (.tup [.int (0 + (v : Int) + dd), .int (0 + (u : Int) + aa)])
            refine ⟨t5, _, rfl, SqT.of upd_same, rfl, _, _, rfl, _, _, rfl, rfl, ?_⟩
            refine ⟨_, rfl, _, rfl, _, rfl, _, _, _, _, rfl, rfl, SqL.of (s5 _ _ hl4), ar2, _, rfl, _, _, _, rfl, rfl, small (by omega), ac3, _, _, rfl, rfl, small (by rw [ll]; show u + 1 ≤ 1000; omega), ?_⟩
            refine ⟨s4.trans s5, some (.int (0 + (u : Int))), some (.bl (decide (mvM b dd aa v u))), some (.int (0 + (v : Int) + dd)), some (.int (0 + (u : Int) + aa)), ?_⟩
            rw [ln_snoc]
            have hy : (⟨#[c3]⟩ : Str) = sgM rows b dd aa v u := by
              unfold sgM
              rw [if_pos mv]
              rw [show (0 + (v : Int) + dd).toNat = ((v : Int) + dd).toNat by omega] at er2
              rw [show (0 + (u : Int) + aa).toNat = ((u : Int) + aa).toNat by omega] at ec3
              exact (one_char er2 ec3).symm
            rw [← hy]
            rfl
          · have mv : ¬ mvM b dd aa v u := fun z => c (decide_eq_true z)
            obtain ⟨c3, ec3, ac3⟩ := str_at (z := r) (i := 0 + (u : Int)) (n := m) (by omega) (by omega) rm
            refine ⟨_, rfl, _, rfl, (by show 2 ≤ sizeLine; decide), fun t5 nt5 => ?_⟩
            have s5 := same_new nt5 (.tup [.int (0 + (v : Int)), .int (0 + (u : Int))])
            refine ⟨t5, _, rfl, SqT.of upd_same, rfl, _, _, rfl, _, _, rfl, rfl, ?_⟩
            refine ⟨_, rfl, _, rfl, _, rfl, _, _, _, _, rfl, rfl, SqL.of (s5 _ _ hl4), ar, _, rfl, _, _, _, rfl, rfl, lz, ac3, _, _, rfl, rfl, small (by rw [ll]; show u + 1 ≤ 1000; omega), ?_⟩
            refine ⟨s4.trans s5, some (.int (0 + (u : Int))), some (.bl (decide (mvM b dd aa v u))), some (.int (0 + (v : Int))), some (.int (0 + (u : Int))), ?_⟩
            rw [ln_snoc]
            have hy : (⟨#[c3]⟩ : Str) = sgM rows b dd aa v u := by
              unfold sgM
              rw [if_neg mv]
              rw [show (0 + (u : Int)).toNat = u by omega] at ec3
              exact (one_char er ec3).symm
            rw [← hy]
            rfl
        · rintro σ H4 ⟨s4, x3, x13, x14, x15, rfl⟩
          have d4 := s4 _ _ d3
          refine ⟨_, rfl, .inl ⟨rfl, _, .inl (.inl d4)⟩, _, rfl, D, _, _, rfl, rfl, d4, ?_, ?_⟩
          · refine Nat.lt_of_le_of_lt ?_ (show 1000 < sizeLine by decide)
            rw [List.length_map, List.length_map, List.length_range]
            omega
          refine ⟨⟨fun b' o' z' => ?_, ?_⟩, ⟨_, _, _, _, _, _, rfl⟩, ?_⟩
          · rw [upd_ne (ne_of_none z' nD)]
            exact s4 _ _ (s3 _ _ z')
          · rw [upd_ne lD]
            exact s4 _ _ hl3
          · rw [upd_same, List.range_succ, List.map_append, List.map_append]
            rfl
      · rintro σ H3 ⟨⟨s3, hl3⟩, ⟨x2, x3, x5, x13, x14, x15, rfl⟩, d3⟩
        rw [eb] at d3
        exact ⟨_, rfl, k D H3 s3 d3⟩
abbrev s_steps_on : Stmt := top 15
theorem sc_steps_on : FnScope ["_law_rows", "_law_some", "_law_found", "_law_one_here"] ["_law_rows", "_law_some"] (defScope s_steps_on) := ⟨rfl, rfl, rfl, by decide +kernel, rfl, by decide +kernel, by decide +kernel⟩
theorem ok_steps_on (F : Fun K "_law_steps_on" "_law_steps_on" s_steps_on f fd) (T : Tx K mg tP) (D_step_on : Dn P w K mg base CX0 2 "_law_step_on" ["_law_rows", "_law_one_here"] spStepOn) : FnOk P w K mg base CX0 3 f fd ["_law_rows", "_law_some"] spSteps := by
  refine F.ok sc_steps_on (fun vs H Q E h => ?_) (fun cdv A outer s H vs Q E hr h => ?_)
  · obtain ⟨l, q, rows, xs, ss, n, m, rfl, _⟩ := h
    rfl
  · obtain ⟨l, q, rows, xs, ss, n, m, rfl, hl, hq, SA, R, n0, n1, m1, gs, sl, k⟩ := h
    refine ⟨_, (pss_cons (ps_set (i := 2) sc_steps_on.nd rfl (.inl rfl) (pe_callTy call_list_of (by rfl) T.no_list (by decide +kernel) (pa_cons (pv 0) pa_nil)))
      (pss_cons (ps_for PassesOwn.never rfl (pi_list (pv 1)) (pg_name (i := 3) sc_steps_on.nd rfl (.inl rfl))
        (pss_one (ps_set (i := 2) sc_steps_on.nd rfl (.inl rfl) (pe_callD D_step_on (hr.mono (by omega)) (by rfl) pass0 (pa_cons (pv 2) (pa_cons (pv 3) pa_nil))))))
      (pss_one (ps_ret (pv 2))))), ?_⟩
    refine ⟨_, rfl, _, _, rfl, .inl (SqL.of hl), fun l1 nl1 => ?_⟩
    have s1 := same_new nl1 (.lst (rows.map V.str))
    have e1 : upd H l1 (.lst (rows.map V.str)) l1 = some (.lst (rows.map V.str)) := upd_same
    generalize upd H l1 (.lst (rows.map V.str)) = H1 at s1 e1 ⊢
    refine ⟨_, rfl, q, rfl, ⟨_, SqL.of (s1 _ _ hq)⟩, ?_⟩
    refine for_list (K := K) (a := q) (xs := xs) (fun j σ H' => Same H H' ∧ ∃ p x3, σ = [some (.ref l), some (.ref q), some (.ref p), x3] ∧ H' p = some (.lst (((ss.take j).foldl (stpM n m) rows).map V.str))) ⟨s1, l1, _, rfl, e1⟩ (fun j σ H' _ z => SqL.of (z.1 _ _ hq)) ?_ ?_
    · rintro j y σ H2 hy ⟨s2, p, x3, rfl, e2⟩
      obtain ⟨st, t, hst, rfl, ht⟩ := SA.at_ hy
      have g := gs st (List.mem_of_getElem? hst)
      have Rj : Rect n m ((ss.take j).foldl (stpM n m) rows) := rect_steps R fun z hz => gs z (List.mem_of_mem_take hz)
      generalize hrj : (ss.take j).foldl (stpM n m) rows = rj at Rj e2
      have fs := fold_snoc n m rows ss hst
      rw [hrj] at fs
      refine ⟨_, rfl, _, rfl, p, t, rj, st, n, m, rfl, e2, s2 _ _ ht, Rj, n0, n1, m1, g, fun p2 H3 s3 e3 => ?_⟩
      exact ⟨s2.trans s3, p2, _, rfl, by rw [fs]; exact e3⟩
    rintro σ H2 ⟨s2, p, x3, rfl, e2⟩
    have xl := SA.len
    rw [xl, List.take_length] at e2
    exact ⟨_, rfl, k p H2 s2 e2⟩
end
end K27

set_option Elab.async false
set_option linter.all false
set_option maxRecDepth 100000
set_option maxHeartbeats 4000000
namespace K27
open PySem L2 Gs
section
variable {P : Program} {w : World} {K : PySem.W.Frag} {mg : Str → Option Value} {base : Heap} {f : Addr} {fd : FuncData} {tP : Tok}
abbrev s_law : Stmt := top 16
theorem sc_law : FnScope ["_law_script", "_law_draw", "_law_turn", "_law_tall", "_law_room", "_law_v", "_law_u", "_law_rows", "_law_some", "_law_k", "_law_stretch", "_law_handed"] ["_law_script"] (defScope s_law) := ⟨rfl, rfl, rfl, by decide +kernel, rfl, by decide +kernel, by decide +kernel⟩
theorem ok_law (F : Fun K "law" "law" s_law f fd) (T : Tx K mg tP) (D_begin : Dn P w K mg base CX0 1 "_law_begin" ["_law_script"] (spBegin K)) (D_pick : Dn P w K mg base CX0 1 "_law_pick" ["_law_draw", "_law_many"] spPickL) (D_same : Dn P w K mg base CX0 3 "_law_same" ["_law_found", "_law_due"] (spSame K 3))
    (D_one : Dn P w K mg base CX0 2 "_law_one" ["_law_draw", "_law_some"] spOneT) (D_behind_steps : Dn P w K mg base CX0 5 "behind_steps" ["rows", "some"] spSteps) (D_steps_on : Dn P w K mg base CX0 3 "_law_steps_on" ["_law_rows", "_law_some"] spSteps) : FnOk P w K mg base CX0 6 f fd ["_law_script"] (spLaw K) := by
  refine F.ok sc_law (fun vs H Q E h => ?_) (fun cdv A outer s H vs Q E hr h => ?_)
  · obtain ⟨a, ns, rfl, _⟩ := h
    rfl
  · obtain ⟨scr, ns, rfl, hS, h63, k⟩ := h
    refine ⟨_, (pss_cons (ps_set (i := 1) sc_law.nd rfl (.inr rfl) (pe_callD D_begin (hr.mono (by omega)) (by rfl) pass0 (pa_cons (pv 0) pa_nil)))
      (pss_cons (ps_for PassesOwn.never rfl (pi_range1 (by rfl) T.no_range (pa_cons pe_int pa_nil)) (pg_name (i := 2) sc_law.nd rfl (.inl rfl))
        (pss_cons (ps_asg (pe_tup (pa_cons (pe_op op_add pe_int (pe_callD D_pick (hr.mono (by omega)) (by rfl) pass0 (pa_cons (pv 1) (pa_cons pe_int pa_nil)))) (pa_cons (pe_op op_add pe_int (pe_callD D_pick (hr.mono (by omega)) (by rfl) pass0 (pa_cons (pv 1) (pa_cons pe_int pa_nil)))) pa_nil))) (pg_tup (by rfl) (pgs_cons (pg_name (i := 3) sc_law.nd rfl (.inl rfl)) (pgs_cons (pg_name (i := 4) sc_law.nd rfl (.inr rfl)) pgs_nil))))
        (pss_cons (ps_setLc (i := 7) (own := [("_law_v", 5)]) (g := gName 5) rfl sc_law.nd rfl rfl (sw_true rfl rfl rfl (by decide +kernel)) (pi_range1 (by rfl) T.no_range (pa_cons (pv 3) pa_nil)) (blkOk_by (N := ["_law_script", "_law_draw", "_law_turn", "_law_tall", "_law_room", "_law_v", "_law_u", "_law_rows", "_law_some", "_law_k", "_law_stretch", "_law_handed"]) (sc := defScope s_law) (by decide +kernel)) (fun _ _ _ _ _ => (pg_name (i := 5) sc_law.nd rfl (Or.inl rfl))) (fun _ _ _ _ _ => pts_nil) (fun _ _ _ _ _ => (pe_bm1K (K := K) rfl PySem.F.plainAttrs_str PySem.F.slot_str_join PySem.F.type_str_join (mt_joinK (K := K) rfl) pe_str (pa_cons (pe_lc (own := [("_law_u", 6)]) (g := gName 6) rfl sc_law.nd (pi_range1 (by rfl) T.no_range (pa_cons (pv 4) pa_nil)) (blkOk_by (by rfl)) (fun _ _ _ _ _ => (pg_name (i := 6) sc_law.nd rfl (Or.inl rfl))) (fun _ _ _ _ _ => pts_nil) (fun _ _ _ _ _ => (pe_callD D_one (hr.mono (by omega)) (by rfl) pass0 (pa_cons (pv 1) (pa_cons pe_str pa_nil))))) pa_nil))))
        (pss_cons (ps_set (i := 8) sc_law.nd rfl (.inl rfl) (pe_lst pa_nil))
        (pss_cons (ps_for PassesOwn.never rfl (pi_range1 (by rfl) T.no_range (pa_cons (pe_callD D_pick (hr.mono (by omega)) (by rfl) pass0 (pa_cons (pv 1) (pa_cons pe_int pa_nil))) pa_nil)) (pg_name (i := 9) sc_law.nd rfl (.inl rfl))
          (pss_cons (ps_par (i := 5) (j := 6) (by rfl) sc_law.nd rfl rfl (by decide) rfl rfl (pa_cons (pe_callD D_pick (hr.mono (by omega)) (by rfl) pass0 (pa_cons (pv 1) (pa_cons (pv 3) pa_nil))) (pa_cons (pe_callD D_pick (hr.mono (by omega)) (by rfl) pass0 (pa_cons (pv 1) (pa_cons (pv 4) pa_nil))) pa_nil)) (by rfl))
          (pss_one (ps_if (pt_cmpR op_eq (pe_callD D_pick (hr.mono (by omega)) (by rfl) pass0 (pa_cons (pv 1) (pa_cons pe_int pa_nil))) pe_int (nomark _)) (pss_one (ps_expr (pe_bm PySem.F.plainAttrs_list PySem.F.slot_list_append PySem.F.type_list_append mt_append (pv 8) (pa_cons (pe_tup (pa_cons pe_str (pa_cons (pv 5) (pa_cons (pv 6) (pa_cons (pe_slice sl_str pe_str po_none (po_some (pe_op op_add pe_int (pe_callD D_pick (hr.mono (by omega)) (by rfl) pass0 (pa_cons (pv 1) (pa_cons (pe_callB (call_min2 rfl) (by rfl) T.no_min (by decide +kernel) (pa_cons pe_int (pa_cons (pe_op op_sub (pv 4) (pv 6)) pa_nil))) pa_nil)))))) pa_nil))))) pa_nil)))) (pss_cons (ps_set (i := 10) sc_law.nd rfl (.inl rfl) (pe_tup (pa_cons (pv 5) (pa_cons (pv 6) (pa_cons (pe_op op_add pe_int (pe_callD D_pick (hr.mono (by omega)) (by rfl) pass0 (pa_cons (pv 1) (pa_cons (pe_op op_sub (pv 3) (pv 5)) pa_nil)))) (pa_cons (pe_op op_add pe_int (pe_callD D_pick (hr.mono (by omega)) (by rfl) pass0 (pa_cons (pv 1) (pa_cons (pe_op op_sub (pv 4) (pv 6)) pa_nil)))) pa_nil))))))
            (pss_one (ps_expr (pe_bm PySem.F.plainAttrs_list PySem.F.slot_list_append PySem.F.type_list_append mt_append (pv 8) (pa_cons (pe_op op_catT (pe_op op_catT (pe_tup (pa_cons pe_str pa_nil)) (pv 10)) (pe_tup (pa_cons (pe_op op_sub (pe_callD D_pick (hr.mono (by omega)) (by rfl) pass0 (pa_cons (pv 1) (pa_cons pe_int pa_nil))) pe_int) (pa_cons (pe_op op_sub (pe_callD D_pick (hr.mono (by omega)) (by rfl) pass0 (pa_cons (pv 1) (pa_cons pe_int pa_nil))) pe_int) pa_nil)))) pa_nil)))))))))
        (pss_cons (ps_set (i := 11) sc_law.nd rfl (.inl rfl) (pe_lst (pa_cons (pe_callTy call_list_of (by rfl) T.no_list (by decide +kernel) (pa_cons (pv 7) pa_nil)) (pa_cons (pe_callTy call_list_of (by rfl) T.no_list (by decide +kernel) (pa_cons (pv 8) pa_nil)) pa_nil))))
        (pss_one (ps_if (PW.pt (pw_or (pt_not (pt_val (pe_callD D_same (hr.mono (by omega)) (by rfl) pass0 (pa_cons (pe_callD D_behind_steps (hr.mono (by omega)) (by rfl) pass0 (pa_cons (pe_ix ix_list (pv 11) pe_int (fun _ _ => rfl)) (pa_cons (pe_ix ix_list (pv 11) pe_int (fun _ _ => rfl)) pa_nil))) (pa_cons (pe_callD D_steps_on (hr.mono (by omega)) (by rfl) pass0 (pa_cons (pv 7) (pa_cons (pv 8) pa_nil))) pa_nil))))) (pw_or1 (pt_cmpR (op_neD hr.units) (pv 11) (pe_lst (pa_cons (pv 7) (pa_cons (pv 8) pa_nil))) (nomark _))))) (pss_one (ps_ret pe_bl)) pss_nil))))))))
      (pss_one (ps_ret pe_bl)))), ?_⟩
    refine ⟨_, rfl, _, _, rfl, hS, fun a H1 na D1' s1 => ?_⟩
    obtain ⟨l0, D1⟩ := D1'.lst
    refine ⟨_, rfl, by decide, by decide, ?_⟩
    refine for_range (lo := 0) (n := 3) (fun j σ H' => DrawL H' a l0 ∧ ∃ x2 x3 x4 x5 x6 x7 x8 x9 x10 x11, σ = [some (.ref scr), some (.ref a), x2, x3, x4, x5, x6, x7, x8, x9, x10, x11]) ⟨D1, _, _, _, _, _, _, _, _, _, _, rfl⟩ ?_ ?_
    · rintro j σ H2 hj ⟨D2, x2, x3, x4, x5, x6, x7, x8, x9, x10, x11, rfl⟩
      refine ⟨_, rfl, _, l0, _, rfl, D2, by decide, by decide, fun r3 H3 p3 q3 D3 e3 => ⟨_, _, rfl, rfl, ?_⟩⟩
      refine ⟨_, rfl, _, l0, _, rfl, D3, by decide, by decide, fun r4 H4 p4 q4 D4 e4 => ⟨_, _, rfl, rfl, ?_⟩⟩
      refine ⟨(by show 2 ≤ sizeLine; decide), fun t5 n5 => ?_⟩
      have q3' : r3 < 7 := q3
      have q4' : r4 < 10 := q4
      obtain ⟨tall, et⟩ : ∃ tall : Int, tall = 1 + r3 := ⟨_, rfl⟩
      obtain ⟨room, er⟩ : ∃ room : Int, room = 1 + r4 := ⟨_, rfl⟩
      show gTup K 2 _ (.ref t5) _ (upd H4 t5 (.tup [.int (1 + r3), .int (1 + r4)])) _
      rw [← et, ← er]
      have s5 := same_new n5 (.tup [.int tall, .int room])
      have e5 : upd H4 t5 (.tup [.int tall, .int room]) t5 = some (.tup [.int tall, .int room]) := upd_same
      generalize upd H4 t5 (.tup [.int tall, .int room]) = H5 at s5 e5 ⊢
      have D5 := D4.same s5
      refine ⟨t5, _, rfl, SqT.of e5, rfl, _, _, rfl, _, _, rfl, rfl, ?_⟩
      clear D4 D3 D2 e3 e4 s5 e5 n5
      -- the drawing
      refine ⟨_, rfl, _, rfl, by omega, by omega, fun D hD => ?_⟩
      obtain ⟨Da, Dl⟩ := D5.new hD
      refine lc_range (lo := 0) (n := Int.toNat tall) (fun i H' => ExtL a l0 H5 H' ∧ ∃ rows : List Str, H' D = some (.lst (rows.map V.str)) ∧ rows.length = i ∧ ∀ r ∈ rows, r.length = room.toNat ∧ OkS r) ⟨ExtL.of D5 (same_new hD _), [], upd_same, rfl, fun y hy => nomatch hy⟩ ?_ ?_
      · rintro i H6 hi ⟨X6, rows, e6, rl, ro⟩
        refine ⟨rfl, ?_⟩
        unfold tYes
        refine ifT rfl ?_
        refine ⟨rfl, _, rfl, _, rfl, by omega, by omega, fun S hS => ?_⟩
        obtain ⟨Sa, Sl⟩ := X6.1.new hS
        have DS : D ≠ S := ne_of_none e6 hS
        refine lc_range (lo := 0) (n := Int.toNat room) (g := gName 6) (tt := fun _ H Q => Q true H) (te := tCall spOneT [] E0 (tCons (tVar 1) (tCons (tC (V.str "abcdefgh")) tNil))) (fun i H' => ExtL a l0 H6 H' ∧ ∃ ys : List Str, H' S = some (.lst (ys.map V.str)) ∧ ys.length = i ∧ ∀ y ∈ ys, y.length = 1 ∧ OkS y) ⟨ExtL.of X6.1 (same_new hS _), [], upd_same, rfl, fun y hy => nomatch hy⟩ ?_ ?_
        · rintro u H7 hu ⟨X7, ys, e7, yl, yo⟩
          refine ⟨rfl, ?_⟩
          refine ifT rfl ?_
          refine ⟨_, rfl, a, l0, "abcdefgh", rfl, X7.1, by decide +kernel, by decide +kernel, OkS.of (by decide +kernel), fun y H8 y1 yok D8 e8 => ?_⟩
          refine ⟨_, (e8 S Sa).trans e7, Nat.lt_of_le_of_lt (by rw [List.length_map, yl]; show u ≤ 1000; omega) (show 1000 < sizeLine by decide), (X7.trans (ExtL.pick D8 e8)).upd hS Sa Sl _, ys ++ [y], by rw [upd_same, List.map_append]; rfl, by rw [List.length_append, yl]; rfl, fun w hw => ?_⟩
          rcases List.mem_append.mp hw with q | q
          · exact yo w q
          · rw [List.mem_singleton.mp q]
            exact ⟨y1, yok⟩
        rintro H7 ⟨X7, ys, e7, yl, yo⟩
        have y1 : ∀ y ∈ ys, y.length = 1 := fun y hy => (yo y hy).1
        refine ⟨"", S, ys, rfl, rfl, .inl (SqL.of e7), ?_, ?_⟩
        · rw [sum_ones ys y1]
          have : ("" : Str).length = 0 := by decide +kernel
          rw [this, yl]
          omega
        refine ⟨_, X7.2 _ _ Da e6, Nat.lt_of_le_of_lt (by rw [List.length_map, rl]; show i ≤ 1000; omega) (show 1000 < sizeLine by decide), (X6.trans X7).upd hD Da Dl _, rows ++ [Txt.join "" ys], by rw [upd_same, List.map_append]; rfl, by rw [List.length_append, rl]; rfl, fun w hw => ?_⟩
        rcases List.mem_append.mp hw with q | q
        · exact ro w q
        · rw [List.mem_singleton.mp q]
          exact ⟨by rw [join_len ys y1, yl], OkS.join fun y hy => (yo y hy).2⟩
      rintro H6 ⟨X6, rows, e6, rl, ro⟩
      have D6 := X6.1
      have R : Rect tall.toNat room.toNat rows := ⟨rl, fun r hr => (ro r hr).1⟩
      have rok : ∀ r ∈ rows, OkS r := fun r hr => (ro r hr).2
      clear X6 D5
      -- the steps
      refine ⟨(by show 0 ≤ sizeLine; decide), fun ls nls => ?_⟩
      have s7 := same_new nls (.lst [])
      have e7 : upd H6 ls (.lst []) ls = some (.lst []) := upd_same
      obtain ⟨La, Ll⟩ := D6.new nls
      have LD : D ≠ ls := ne_of_none e6 nls
      generalize upd H6 ls (.lst []) = H7 at s7 e7 ⊢
      have D7 := D6.same s7
      refine ⟨_, rfl, _, l0, _, rfl, D7, by decide, by decide, fun r8 H8 p8 q8 D8 e8 => ?_⟩
      have q8' : r8 < 7 := q8
      refine ⟨_, rfl, by omega, by omega, ?_⟩
      refine for_range (lo := 0) (n := Int.toNat r8) (fun i σ H' => (DrawL H' a l0 ∧ H' D = some (.lst (rows.map V.str))) ∧ ∃ x5 x6 x9 x10 xs ss, σ = [some (.ref scr), some (.ref a), some (.int (0 + (j : Int))), some (.int tall), some (.int room), x5, x6, some (.ref D), some (.ref ls), x9, x10, x11] ∧ H' ls = some (.lst xs) ∧ StpAt H' xs ss ∧ ss.length = i ∧ ∀ s ∈ ss, goodSt tall.toNat room.toNat s ∧ okStp s) ⟨⟨D8, (e8 D Da).trans (s7 _ _ e6)⟩, _, _, _, _, [], [], rfl, (e8 ls La).trans e7, .nil, rfl, fun s hs => nomatch hs⟩ ?_ ?_
      · rintro i σ H9 hi ⟨⟨D9, d9⟩, x5, x6, x9, x10, xs, ss, rfl, e9, SA, sl, sg⟩
        have xl := SA.len
        refine ⟨_, rfl, _, rfl, _, l0, _, rfl, D9, by omega, by omega, fun v H10 p10 q10 D10 e10 => ?_⟩
        refine ⟨_, rfl, _, rfl, _, l0, _, rfl, D10, by omega, by omega, fun u H11 p11 q11 D11 e11 => ?_⟩
        refine ⟨_, _, rfl, ?_⟩
        refine ⟨_, rfl, _, l0, _, rfl, D11, by decide, by decide, fun r12 H12 p12 q12 D12 e12 => ⟨rfl, _, rfl, ?_⟩⟩
        have X12 : ExtL a l0 H9 H12 := ((ExtL.pick D10 e10).trans (ExtL.pick D11 e11)).trans (ExtL.pick D12 e12)
        have e12' := X12.2 _ _ La e9
        have d12 := X12.2 _ _ Da d9
        have xl' : xs.length < sizeLine := Nat.lt_of_le_of_lt (show _ ≤ 1000 by omega) (by decide)
        have ts12 : TupSame H9 H12 := fun t zs q => X12.tup D9 q
        have fin : ∀ (H' : Hp) (t : Addr) (st : Stp), ExtL a l0 H9 H' → H' t = some (.tup (stepL st)) → goodSt tall.toNat room.toNat st → okStp st → (DrawL (upd H' ls (.lst (xs ++ [.ref t]))) a l0 ∧ upd H' ls (.lst (xs ++ [.ref t])) D = some (.lst (rows.map V.str))) ∧ upd H' ls (.lst (xs ++ [.ref t])) ls = some (.lst (xs ++ [.ref t])) ∧ StpAt (upd H' ls (.lst (xs ++ [.ref t]))) (xs ++ [.ref t]) (ss ++ [st]) ∧ (ss ++ [st]).length = i + 1 ∧ ∀ s ∈ ss ++ [st], goodSt tall.toNat room.toNat s ∧ okStp s := fun H' t st X' ht g o => by
          have ne : ∀ t' zs, H' t' = some (.tup zs) → t' ≠ ls := fun t' zs q => ne_of q (X'.2 _ _ La e9) (by intro e; cases e)
          have tu : TupSame H' (upd H' ls (.lst (xs ++ [.ref t]))) := fun t' zs q => by rw [upd_ne (ne t' zs q)]; exact q
          refine ⟨⟨X'.1.upd La Ll _, by rw [upd_ne LD]; exact X'.2 _ _ Da d9⟩, upd_same, ?_, by rw [List.length_append, sl]; rfl, fun s hs => ?_⟩
          · exact (SA.mono (TupSame.trans (fun t zs q => X'.tup D9 q) tu)).append (.cons ⟨t, rfl, tu _ _ ht⟩ .nil)
          · rcases List.mem_append.mp hs with q | q
            · exact sg s q
            · rw [List.mem_singleton.mp q]
              exact ⟨g, o⟩
        refine ite2 (fun c => ?_) (fun c => ?_)
        · -- a put
          refine ⟨_, rfl, .inl ⟨rfl, _, .inl (.inl e12')⟩, _, rfl, _, rfl, _, rfl, _, rfl, _, rfl, _, _, rfl, rfl, _, _, rfl, a, l0, _, rfl, D12, ?_, ?_, fun r13 H13 p13 q13 D13 e13 => ?_⟩
          · show 1 ≤ if room - u < 3 then room - u else 3
            split <;> omega
          · show (if room - u < 3 then room - u else 3) < 1073741824
            split <;> omega
          have q13' : r13 < if room - u < 3 then room - u else 3 := q13
          have b13 : r13 < 3 ∧ r13 < room - u := by split at q13' <;> omega
          have X13 := X12.trans (ExtL.pick D13 e13)
          have tl := cut_len0 (x := "xyz") (u := 1 + r13) (by omega) (by rw [xyz_len]; omega)
          refine ⟨_, _, rfl, rfl, _, rfl, _, rfl, by decide +kernel, (by show 4 ≤ sizeLine; decide), fun t14 n14 => ?_⟩
          obtain ⟨tx, etx⟩ : ∃ tx, tx = cutS "xyz" none (some (1 + r13)) := ⟨_, rfl⟩
          have s14 := same_new n14 (.tup [.str "put", .int v, .int u, .str tx])
          have f := fin _ t14 (.put v u tx) (X13.same s14) upd_same ⟨p10, by omega, p11, by rw [etx]; omega⟩ (by rw [etx]; exact (OkS.of (by decide +kernel) : OkS "xyz").cut _ _)
          rw [etx] at f s14
          refine ⟨ls, _, _, rfl, rfl, s14 _ _ (X13.2 _ _ La e9), xl', ?_⟩
          exact ⟨f.1, _, _, _, _, _, _, rfl, f.2.1, f.2.2.1, f.2.2.2.1, f.2.2.2.2⟩
        · -- a shift
          refine ⟨_, rfl, _, rfl, _, rfl, _, rfl, _, rfl, _, _, rfl, rfl, a, l0, _, rfl, D12, by omega, by omega, fun r13 H13 p13 q13 D13 e13 => ⟨_, _, rfl, rfl, ?_⟩⟩
          refine ⟨_, rfl, _, rfl, _, rfl, _, _, rfl, rfl, a, l0, _, rfl, D13, by omega, by omega, fun r14 H14 p14 q14 D14 e14 => ⟨_, _, rfl, rfl, ?_⟩⟩
          refine ⟨(by show 4 ≤ sizeLine; decide), fun t15 n15 => ?_⟩
          have s15 := same_new n15 (.tup [.int v, .int u, .int (1 + r13), .int (1 + r14)])
          obtain ⟨H15, eH15⟩ : ∃ H15, H15 = upd H14 t15 (.tup [.int v, .int u, .int (1 + r13), .int (1 + r14)]) := ⟨_, rfl⟩
          have e15 : H15 t15 = some (.tup [.int v, .int u, .int (1 + r13), .int (1 + r14)]) := by rw [eH15]; exact upd_same
          rw [← eH15] at s15
          show gName 10 (V.ref t15) _ (upd H14 t15 (.tup [.int v, .int u, .int (1 + r13), .int (1 + r14)])) _
          rw [← eH15]
          have X15 : ExtL a l0 H9 H15 := ((X12.trans (ExtL.pick D13 e13)).trans (ExtL.pick D14 e14)).same s15
          have e15' := X15.2 _ _ La e9
          refine ⟨_, rfl, .inl ⟨rfl, _, .inl (.inl e15')⟩, (by show 1 ≤ sizeLine; decide), fun t16 n16 => ?_⟩
          have s16 := same_new n16 (.tup [.str "shift"])
          have e16 : upd H15 t16 (.tup [.str "shift"]) t16 = some (.tup [.str "shift"]) := upd_same
          generalize upd H15 t16 (.tup [.str "shift"]) = H16 at s16 e16 ⊢
          refine ⟨_, rfl, t16, t15, _, _, rfl, rfl, SqT.of e16, SqT.of (s16 _ _ e15), (by simp), (by show 5 ≤ sizeLine; decide), (fun z => by cases z), fun _ t17 n17 => ?_⟩
          have s17 := same_new n17 (.tup [.str "shift", .int v, .int u, .int (1 + r13), .int (1 + r14)])
          have e17 : upd H16 t17 (.tup [.str "shift", .int v, .int u, .int (1 + r13), .int (1 + r14)]) t17 = some (.tup [.str "shift", .int v, .int u, .int (1 + r13), .int (1 + r14)]) := upd_same
          obtain ⟨H17, eH17⟩ : ∃ H17, H17 = upd H16 t17 (.tup [.str "shift", .int v, .int u, .int (1 + r13), .int (1 + r14)]) := ⟨_, rfl⟩
          rw [← eH17] at s17 e17
          have X17 := (X15.same s16).same s17
          refine ⟨_, rfl, a, l0, _, rfl, (by rw [eH17] at X17; exact X17.1), by decide, by decide, fun r18 H18 p18 q18 D18 e18 => ⟨_, _, rfl, rfl, ?_⟩⟩
          have e18' : ∀ b, b ≠ a → H18 b = H17 b := by rw [eH17]; exact e18
          refine ⟨_, rfl, a, l0, _, rfl, D18, by decide, by decide, fun r19 H19 p19 q19 D19 e19 => ⟨_, _, rfl, rfl, ?_⟩⟩
          have X19 : ExtL a l0 H9 H19 := (X17.trans (ExtL.pick D18 e18')).trans (ExtL.pick D19 e19)
          have e19t := ((ExtL.pick D18 e18').trans (ExtL.pick D19 e19)).tup X17.1 e17
          refine ⟨(by show 2 ≤ sizeLine; decide), fun t20 n20 => ?_⟩
          have s20 := same_new n20 (.tup [.int (r18 - 3), .int (r19 - 4)])
          have e20 : upd H19 t20 (.tup [.int (r18 - 3), .int (r19 - 4)]) t20 = some (.tup [.int (r18 - 3), .int (r19 - 4)]) := upd_same
          have e20t := s20 _ _ e19t
          obtain ⟨H20, eH20⟩ : ∃ H20, H20 = upd H19 t20 (.tup [.int (r18 - 3), .int (r19 - 4)]) := ⟨_, rfl⟩
          refine ⟨t17, t20, _, _, rfl, rfl, SqT.of e20t, SqT.of e20, (by simp), (by show 7 ≤ sizeLine; decide), (fun z => by cases z), fun _ t21 n21 => ?_⟩
          have s21 := same_new n21 (.tup (stepL (.shift v u (1 + r13) (1 + r14) (r18 - 3) (r19 - 4))))
          have X21 := (X19.same s20).same s21
          have f := fin _ t21 (.shift v u (1 + r13) (1 + r14) (r18 - 3) (r19 - 4)) X21 upd_same ⟨p10, p11, by omega, by omega, by omega, by omega⟩ trivial
          refine ⟨ls, _, _, rfl, rfl, X21.2 _ _ La e9, xl', ?_⟩
          exact ⟨f.1, _, _, _, _, _, _, rfl, f.2.1, f.2.2.1, f.2.2.2.1, f.2.2.2.2⟩
      rintro σ H9 ⟨⟨D9, d9⟩, x5, x6, x9, x10, xs, ss, rfl, e9, SA, sl, sg⟩
      have xl := SA.len
      -- what is handed in
      refine ⟨_, rfl, _, _, rfl, .inl (SqL.of d9), fun p1 n1 => ?_⟩
      have s10 := same_new n1 (.lst (rows.map V.str))
      have e10 : upd H9 p1 (.lst (rows.map V.str)) p1 = some (.lst (rows.map V.str)) := upd_same
      generalize upd H9 p1 (.lst (rows.map V.str)) = H10 at s10 e10 ⊢
      refine ⟨_, rfl, _, _, rfl, .inl (SqL.of (s10 _ _ e9)), fun p2 n2 => ?_⟩
      have s11 := same_new n2 (.lst xs)
      have e11 : upd H10 p2 (.lst xs) p2 = some (.lst xs) := upd_same
      generalize upd H10 p2 (.lst xs) = H11 at s11 e11 ⊢
      refine ⟨(by show 2 ≤ sizeLine; decide), fun lh nh => ?_⟩
      have s12 := same_new nh (.lst [.ref p1, .ref p2])
      have e12 : upd H11 lh (.lst [.ref p1, .ref p2]) lh = some (.lst [.ref p1, .ref p2]) := upd_same
      generalize upd H11 lh (.lst [.ref p1, .ref p2]) = H12 at s12 e12 ⊢
      have s912 := s10.trans (s11.trans s12)
      have SA12 := SA.mono (TupSame.of s912)
      have gd : ∀ s ∈ ss, goodSt tall.toNat room.toNat s := fun s hs => (sg s hs).1
      refine ⟨_, rfl, _, _, _, _, rfl, rfl, SqL.of e12, atI_nat (j := 0) rfl, _, rfl, _, _, _, _, rfl, rfl, SqL.of e12, atI_nat (j := 1) rfl, p1, p2, rows, xs, ss, tall.toNat, room.toNat, rfl, s12 _ _ (s11 _ _ e10), s12 _ _ e11, SA12, R, by omega, by omega, by omega, gd, by omega, fun p3 H13 s13 e13 => ?_⟩
      have s913 := s912.trans s13
      refine ⟨_, rfl, _, rfl, D, ls, rows, xs, ss, tall.toNat, room.toNat, rfl, s913 _ _ d9, s913 _ _ e9, SA12.mono (TupSame.of s13), R, by omega, by omega, by omega, gd, by omega, fun p4 H14 s14 e14 => ?_⟩
      have Rf := rect_steps R gd
      refine ⟨_, _, .list ((ss.foldl (stpM tall.toNat room.toNat) rows).map PyData.str), rfl, .lst (SqL.of (s14 _ _ e13)) (strs_dp _), .lst (SqL.of e14) (strs_dp _), by rw [strs_depth]; decide, by rw [strs_mxl', Rf.1]; omega, fun H15 s15 => ⟨_, rfl, ?_⟩⟩
      refine ifF (by simp) ?_
      have s915 := s913.trans (s14.trans s15)
      have e15 := s15 _ _ (s14 _ _ (s13 _ _ e12))
      have e15a := s15 _ _ (s14 _ _ (s13 _ _ (s12 _ _ (s11 _ _ e10))))
      have e15b := s15 _ _ (s14 _ _ (s13 _ _ (s12 _ _ e11)))
      refine ⟨_, rfl, _, rfl, _, rfl, (by show 2 ≤ sizeLine; decide), fun lq nq => ?_⟩
      have s16 := same_new nq (.lst [.ref D, .ref ls])
      have s916 := s915.trans s16
      have SA16 := SA.mono (TupSame.of s916)
      have sh := handed_shaped (rows := rows) (ss := ss) rok fun s hs => (sg s hs).2
      refine ⟨.list [.list (rows.map PyData.str), .list (ss.map stepD)], .list [.list (rows.map PyData.str), .list (ss.map stepD)], .lst (SqL.of (s16 _ _ e15)) (.cons (.lst (SqL.of (s16 _ _ e15a)) (strs_dp _)) (.cons (.lst (SqL.of (s16 _ _ e15b)) SA16.dp) .nil)), .lst (SqL.of upd_same) (.cons (.lst (SqL.of (s916 _ _ d9)) (strs_dp _)) (.cons (.lst (SqL.of (s916 _ _ e9)) SA16.dp) .nil)), sh, sh, _, rfl, ?_⟩
      refine ifF (by rw [shaped_eqv sh]; simp) ?_
      exact ⟨D9.same s916, _, _, _, _, _, _, _, _, _, _, rfl⟩
    rintro σ H2 ⟨D2, x2, x3, x4, x5, x6, x7, x8, x9, x10, x11, rfl⟩
    exact k _
end
end K27

set_option Elab.async false
set_option linter.all false
set_option maxRecDepth 100000
set_option maxHeartbeats 4000000
namespace K27
open PySem L2 Gs
theorem all_mk {l : PySem.W.OpenLaw} {w : World} {K : PySem.W.Frag} {h : Heap} {mg : Str → Option Value} {fa : Addr} {tP : Tok} (X : K.In h) (G : h.Ns mainGlobals mg) (hfa : mg "law" = some (.ref fa))
    {f_shared : Addr} {od_shared an_shared : Option Addr} {sl_shared : Array (Option Value)} {oc_shared dc_shared pm_shared cd_shared ct_shared kV_shared : Value}
    (a_shared : PySem.W.nsIn K mainGlobals "shared" = some (some (.ref f_shared)))
    (l_shared : K.lookup f_shared = some ⟨oc_shared, od_shared, .func (PySem.W.fnOf "shared" "shared" (defArgs s_shared) (defBody s_shared) (defScope s_shared) .none kV_shared dc_shared pm_shared an_shared cd_shared ct_shared), sl_shared⟩)
    (c_shared : PySem.W.codeIn K cd_shared "shared" = true)
    (k_shared : PySem.W.keepIn K (.ref f_shared) = true)
    {f_has : Addr} {od_has an_has : Option Addr} {sl_has : Array (Option Value)} {oc_has dc_has pm_has cd_has ct_has kV_has : Value}
    (a_has : PySem.W.nsIn K mainGlobals "has" = some (some (.ref f_has)))
    (l_has : K.lookup f_has = some ⟨oc_has, od_has, .func (PySem.W.fnOf "has" "has" (defArgs s_has) (defBody s_has) (defScope s_has) .none kV_has dc_has pm_has an_has cd_has ct_has), sl_has⟩)
    (c_has : PySem.W.codeIn K cd_has "has" = true)
    (k_has : PySem.W.keepIn K (.ref f_has) = true)
    {f_with_put : Addr} {od_with_put an_with_put : Option Addr} {sl_with_put : Array (Option Value)} {oc_with_put dc_with_put pm_with_put cd_with_put ct_with_put kV_with_put : Value}
    (a_with_put : PySem.W.nsIn K mainGlobals "with_put" = some (some (.ref f_with_put)))
    (l_with_put : K.lookup f_with_put = some ⟨oc_with_put, od_with_put, .func (PySem.W.fnOf "with_put" "with_put" (defArgs s_with_put) (defBody s_with_put) (defScope s_with_put) .none kV_with_put dc_with_put pm_with_put an_with_put cd_with_put ct_with_put), sl_with_put⟩)
    (c_with_put : PySem.W.codeIn K cd_with_put "with_put" = true)
    (k_with_put : PySem.W.keepIn K (.ref f_with_put) = true)
    {f_behind_put : Addr} {od_behind_put an_behind_put : Option Addr} {sl_behind_put : Array (Option Value)} {oc_behind_put dc_behind_put pm_behind_put cd_behind_put ct_behind_put kV_behind_put : Value}
    (a_behind_put : PySem.W.nsIn K mainGlobals "behind_put" = some (some (.ref f_behind_put)))
    (l_behind_put : K.lookup f_behind_put = some ⟨oc_behind_put, od_behind_put, .func (PySem.W.fnOf "behind_put" "behind_put" (defArgs s_behind_put) (defBody s_behind_put) (defScope s_behind_put) .none kV_behind_put dc_behind_put pm_behind_put an_behind_put cd_behind_put ct_behind_put), sl_behind_put⟩)
    (c_behind_put : PySem.W.codeIn K cd_behind_put "behind_put" = true)
    (k_behind_put : PySem.W.keepIn K (.ref f_behind_put) = true)
    {f_behind_shift : Addr} {od_behind_shift an_behind_shift : Option Addr} {sl_behind_shift : Array (Option Value)} {oc_behind_shift dc_behind_shift pm_behind_shift cd_behind_shift ct_behind_shift kV_behind_shift : Value}
    (a_behind_shift : PySem.W.nsIn K mainGlobals "behind_shift" = some (some (.ref f_behind_shift)))
    (l_behind_shift : K.lookup f_behind_shift = some ⟨oc_behind_shift, od_behind_shift, .func (PySem.W.fnOf "behind_shift" "behind_shift" (defArgs s_behind_shift) (defBody s_behind_shift) (defScope s_behind_shift) .none kV_behind_shift dc_behind_shift pm_behind_shift an_behind_shift cd_behind_shift ct_behind_shift), sl_behind_shift⟩)
    (c_behind_shift : PySem.W.codeIn K cd_behind_shift "behind_shift" = true)
    (k_behind_shift : PySem.W.keepIn K (.ref f_behind_shift) = true)
    {f_behind_steps : Addr} {od_behind_steps an_behind_steps : Option Addr} {sl_behind_steps : Array (Option Value)} {oc_behind_steps dc_behind_steps pm_behind_steps cd_behind_steps ct_behind_steps kV_behind_steps : Value}
    (a_behind_steps : PySem.W.nsIn K mainGlobals "behind_steps" = some (some (.ref f_behind_steps)))
    (l_behind_steps : K.lookup f_behind_steps = some ⟨oc_behind_steps, od_behind_steps, .func (PySem.W.fnOf "behind_steps" "behind_steps" (defArgs s_behind_steps) (defBody s_behind_steps) (defScope s_behind_steps) .none kV_behind_steps dc_behind_steps pm_behind_steps an_behind_steps cd_behind_steps ct_behind_steps), sl_behind_steps⟩)
    (c_behind_steps : PySem.W.codeIn K cd_behind_steps "behind_steps" = true)
    (k_behind_steps : PySem.W.keepIn K (.ref f_behind_steps) = true)
    {f_begin : Addr} {od_begin an_begin : Option Addr} {sl_begin : Array (Option Value)} {oc_begin dc_begin pm_begin cd_begin ct_begin kV_begin : Value}
    (a_begin : PySem.W.nsIn K mainGlobals "_law_begin" = some (some (.ref f_begin)))
    (l_begin : K.lookup f_begin = some ⟨oc_begin, od_begin, .func (PySem.W.fnOf "_law_begin" "_law_begin" (defArgs s_begin) (defBody s_begin) (defScope s_begin) .none kV_begin dc_begin pm_begin an_begin cd_begin ct_begin), sl_begin⟩)
    (c_begin : PySem.W.codeIn K cd_begin "_law_begin" = true)
    (k_begin : PySem.W.keepIn K (.ref f_begin) = true)
    {f_pick : Addr} {od_pick an_pick : Option Addr} {sl_pick : Array (Option Value)} {oc_pick dc_pick pm_pick cd_pick ct_pick kV_pick : Value}
    (a_pick : PySem.W.nsIn K mainGlobals "_law_pick" = some (some (.ref f_pick)))
    (l_pick : K.lookup f_pick = some ⟨oc_pick, od_pick, .func (PySem.W.fnOf "_law_pick" "_law_pick" (defArgs s_pick) (defBody s_pick) (defScope s_pick) .none kV_pick dc_pick pm_pick an_pick cd_pick ct_pick), sl_pick⟩)
    (c_pick : PySem.W.codeIn K cd_pick "_law_pick" = true)
    (k_pick : PySem.W.keepIn K (.ref f_pick) = true)
    {f_one : Addr} {od_one an_one : Option Addr} {sl_one : Array (Option Value)} {oc_one dc_one pm_one cd_one ct_one kV_one : Value}
    (a_one : PySem.W.nsIn K mainGlobals "_law_one" = some (some (.ref f_one)))
    (l_one : K.lookup f_one = some ⟨oc_one, od_one, .func (PySem.W.fnOf "_law_one" "_law_one" (defArgs s_one) (defBody s_one) (defScope s_one) .none kV_one dc_one pm_one an_one cd_one ct_one), sl_one⟩)
    (c_one : PySem.W.codeIn K cd_one "_law_one" = true)
    (k_one : PySem.W.keepIn K (.ref f_one) = true)
    {f_same : Addr} {od_same an_same : Option Addr} {sl_same : Array (Option Value)} {oc_same dc_same pm_same cd_same ct_same kV_same : Value}
    (a_same : PySem.W.nsIn K mainGlobals "_law_same" = some (some (.ref f_same)))
    (l_same : K.lookup f_same = some ⟨oc_same, od_same, .func (PySem.W.fnOf "_law_same" "_law_same" (defArgs s_same) (defBody s_same) (defScope s_same) .none kV_same dc_same pm_same an_same cd_same ct_same), sl_same⟩)
    (c_same : PySem.W.codeIn K cd_same "_law_same" = true)
    (k_same : PySem.W.keepIn K (.ref f_same) = true)
    {f_step_on : Addr} {od_step_on an_step_on : Option Addr} {sl_step_on : Array (Option Value)} {oc_step_on dc_step_on pm_step_on cd_step_on ct_step_on kV_step_on : Value}
    (a_step_on : PySem.W.nsIn K mainGlobals "_law_step_on" = some (some (.ref f_step_on)))
    (l_step_on : K.lookup f_step_on = some ⟨oc_step_on, od_step_on, .func (PySem.W.fnOf "_law_step_on" "_law_step_on" (defArgs s_step_on) (defBody s_step_on) (defScope s_step_on) .none kV_step_on dc_step_on pm_step_on an_step_on cd_step_on ct_step_on), sl_step_on⟩)
    (c_step_on : PySem.W.codeIn K cd_step_on "_law_step_on" = true)
    (k_step_on : PySem.W.keepIn K (.ref f_step_on) = true)
    {f_steps_on : Addr} {od_steps_on an_steps_on : Option Addr} {sl_steps_on : Array (Option Value)} {oc_steps_on dc_steps_on pm_steps_on cd_steps_on ct_steps_on kV_steps_on : Value}
    (a_steps_on : PySem.W.nsIn K mainGlobals "_law_steps_on" = some (some (.ref f_steps_on)))
    (l_steps_on : K.lookup f_steps_on = some ⟨oc_steps_on, od_steps_on, .func (PySem.W.fnOf "_law_steps_on" "_law_steps_on" (defArgs s_steps_on) (defBody s_steps_on) (defScope s_steps_on) .none kV_steps_on dc_steps_on pm_steps_on an_steps_on cd_steps_on ct_steps_on), sl_steps_on⟩)
    (c_steps_on : PySem.W.codeIn K cd_steps_on "_law_steps_on" = true)
    (k_steps_on : PySem.W.keepIn K (.ref f_steps_on) = true)
    {f_law : Addr} {od_law an_law : Option Addr} {sl_law : Array (Option Value)} {oc_law dc_law pm_law cd_law ct_law kV_law : Value}
    (a_law : PySem.W.nsIn K mainGlobals "law" = some (some (.ref f_law)))
    (l_law : K.lookup f_law = some ⟨oc_law, od_law, .func (PySem.W.fnOf "law" "law" (defArgs s_law) (defBody s_law) (defScope s_law) .none kV_law dc_law pm_law an_law cd_law ct_law), sl_law⟩)
    (c_law : PySem.W.codeIn K cd_law "law" = true)
    (k_law : PySem.W.keepIn K (.ref f_law) = true)
    (z_max : PySem.W.nsIn K mainGlobals "max" = some none)
    (z_min : PySem.W.nsIn K mainGlobals "min" = some none)
    (z_len : PySem.W.nsIn K mainGlobals "len" = some none)
    (z_list : PySem.W.nsIn K mainGlobals "list" = some none)
    (z_isinstance : PySem.W.nsIn K mainGlobals "isinstance" = some none)
    (z_bool : PySem.W.nsIn K mainGlobals "bool" = some none)
    (z_int : PySem.W.nsIn K mainGlobals "int" = some none)
    (z_str : PySem.W.nsIn K mainGlobals "str" = some none)
    (z_tuple : PySem.W.nsIn K mainGlobals "tuple" = some none)
    (z_range : PySem.W.nsIn K mainGlobals "range" = some none)
    (z_all : PySem.W.nsIn K mainGlobals "all" = some none)
    (z_sum : PySem.W.nsIn K mainGlobals "sum" = some none)
    (z_sorted : PySem.W.nsIn K mainGlobals "sorted" = some none)
    (z_any : PySem.W.nsIn K mainGlobals "any" = some none)
    (z_dict : PySem.W.nsIn K mainGlobals "dict" = some none)
    (z_repr : PySem.W.nsIn K mainGlobals "repr" = some none)
    (z_enumerate : PySem.W.nsIn K mainGlobals "enumerate" = some none)
    (g_PUT : PySem.W.nsIn K mainGlobals "PUT" = some (some (.str "put" tP)))
    : ∃ fd : FuncData, (∀ (s : Shared) (v : Value), BindsTo s fd ⟨[v], []⟩ [("_law_script", v)]) ∧ ∀ base : Heap, K.In base → base.Ns mainGlobals mg → FnOk l.prog w K mg base CX0 6 fa fd ["_law_script"] (spLaw K) := by
  have e := hfa.symm.trans (PySem.W.mg_of X G a_law)
  cases e
  have T : Tx K mg tP := ⟨PySem.W.mg_none_of X G z_max, PySem.W.mg_none_of X G z_min, PySem.W.mg_none_of X G z_len, PySem.W.mg_none_of X G z_list, PySem.W.mg_none_of X G z_isinstance, PySem.W.mg_none_of X G z_bool, PySem.W.mg_none_of X G z_int, PySem.W.mg_none_of X G z_str, PySem.W.mg_none_of X G z_tuple, PySem.W.mg_none_of X G z_range, PySem.W.mg_none_of X G z_all, PySem.W.mg_none_of X G z_sum, PySem.W.mg_none_of X G z_sorted, PySem.W.mg_none_of X G z_any, PySem.W.mg_none_of X G z_dict, PySem.W.mg_none_of X G z_repr, PySem.W.mg_none_of X G z_enumerate, PySem.W.mg_of X G g_PUT⟩
  have F_shared := fun_mk (st := s_shared) l_shared c_shared k_shared
  have b_shared := F_shared.binds (ps := ["one", "other"]) fun _ _ _ _ _ _ us hl => match us, hl with | [_, _], _ => rfl
  have m_shared := PySem.W.mg_of X G a_shared
  have F_has := fun_mk (st := s_has) l_has c_has k_has
  have b_has := F_has.binds (ps := ["box", "row", "column"]) fun _ _ _ _ _ _ us hl => match us, hl with | [_, _, _], _ => rfl
  have m_has := PySem.W.mg_of X G a_has
  have F_with_put := fun_mk (st := s_with_put) l_with_put c_with_put k_with_put
  have b_with_put := F_with_put.binds (ps := ["row", "u", "text"]) fun _ _ _ _ _ _ us hl => match us, hl with | [_, _, _], _ => rfl
  have m_with_put := PySem.W.mg_of X G a_with_put
  have F_behind_put := fun_mk (st := s_behind_put) l_behind_put c_behind_put k_behind_put
  have b_behind_put := F_behind_put.binds (ps := ["rows", "v", "u", "text"]) fun _ _ _ _ _ _ us hl => match us, hl with | [_, _, _, _], _ => rfl
  have m_behind_put := PySem.W.mg_of X G a_behind_put
  have F_behind_shift := fun_mk (st := s_behind_shift) l_behind_shift c_behind_shift k_behind_shift
  have b_behind_shift := F_behind_shift.binds (ps := ["rows", "stretch", "down", "across"]) fun _ _ _ _ _ _ us hl => match us, hl with | [_, _, _, _], _ => rfl
  have m_behind_shift := PySem.W.mg_of X G a_behind_shift
  have F_behind_steps := fun_mk (st := s_behind_steps) l_behind_steps c_behind_steps k_behind_steps
  have b_behind_steps := F_behind_steps.binds (ps := ["rows", "some"]) fun _ _ _ _ _ _ us hl => match us, hl with | [_, _], _ => rfl
  have m_behind_steps := PySem.W.mg_of X G a_behind_steps
  have F_begin := fun_mk (st := s_begin) l_begin c_begin k_begin
  have b_begin := F_begin.binds (ps := ["_law_script"]) fun _ _ _ _ _ _ us hl => match us, hl with | [_], _ => rfl
  have m_begin := PySem.W.mg_of X G a_begin
  have F_pick := fun_mk (st := s_pick) l_pick c_pick k_pick
  have b_pick := F_pick.binds (ps := ["_law_draw", "_law_many"]) fun _ _ _ _ _ _ us hl => match us, hl with | [_, _], _ => rfl
  have m_pick := PySem.W.mg_of X G a_pick
  have F_one := fun_mk (st := s_one) l_one c_one k_one
  have b_one := F_one.binds (ps := ["_law_draw", "_law_some"]) fun _ _ _ _ _ _ us hl => match us, hl with | [_, _], _ => rfl
  have m_one := PySem.W.mg_of X G a_one
  have F_same := fun_mk (st := s_same) l_same c_same k_same
  have b_same := F_same.binds (ps := ["_law_found", "_law_due"]) fun _ _ _ _ _ _ us hl => match us, hl with | [_, _], _ => rfl
  have m_same := PySem.W.mg_of X G a_same
  have F_step_on := fun_mk (st := s_step_on) l_step_on c_step_on k_step_on
  have b_step_on := F_step_on.binds (ps := ["_law_rows", "_law_one_here"]) fun _ _ _ _ _ _ us hl => match us, hl with | [_, _], _ => rfl
  have m_step_on := PySem.W.mg_of X G a_step_on
  have F_steps_on := fun_mk (st := s_steps_on) l_steps_on c_steps_on k_steps_on
  have b_steps_on := F_steps_on.binds (ps := ["_law_rows", "_law_some"]) fun _ _ _ _ _ _ us hl => match us, hl with | [_, _], _ => rfl
  have m_steps_on := PySem.W.mg_of X G a_steps_on
  have F_law := fun_mk (st := s_law) l_law c_law k_law
  refine ⟨PySem.W.fnOf "law" "law" (defArgs s_law) (defBody s_law) (defScope s_law) .none kV_law dc_law pm_law an_law cd_law ct_law, fun s v => .of_eq rfl, fun base _ _ => ?_⟩
  have D_begin : Dn l.prog w K mg base CX0 1 "_law_begin" ["_law_script"] (spBegin K) := ⟨_, _, ok_begin F_begin T, m_begin, k_begin, b_begin⟩
  have D_pick : Dn l.prog w K mg base CX0 1 "_law_pick" ["_law_draw", "_law_many"] spPickL := ⟨_, _, ok_pickL F_pick T, m_pick, k_pick, b_pick⟩
  have D_shared : Dn l.prog w K mg base CX0 1 "shared" ["one", "other"] spShared := ⟨_, _, ok_shared F_shared T, m_shared, k_shared, b_shared⟩
  have D_has : Dn l.prog w K mg base CX0 3 "has" ["box", "row", "column"] spHas := ⟨_, _, ok_has F_has T, m_has, k_has, b_has⟩
  have D_with_put : Dn l.prog w K mg base CX0 1 "with_put" ["row", "u", "text"] spWithPut := ⟨_, _, ok_with_put F_with_put T, m_with_put, k_with_put, b_with_put⟩
  have D_behind_put : Dn l.prog w K mg base CX0 2 "behind_put" ["rows", "v", "u", "text"] spBPut := ⟨_, _, ok_behind_put F_behind_put T D_with_put, m_behind_put, k_behind_put, b_behind_put⟩
  have D_behind_shift : Dn l.prog w K mg base CX0 4 "behind_shift" ["rows", "stretch", "down", "across"] spBShift := ⟨_, _, ok_behind_shift F_behind_shift T D_shared D_has, m_behind_shift, k_behind_shift, b_behind_shift⟩
  have D_behind_steps : Dn l.prog w K mg base CX0 5 "behind_steps" ["rows", "some"] spSteps := ⟨_, _, ok_behind_steps F_behind_steps T D_behind_put D_behind_shift, m_behind_steps, k_behind_steps, b_behind_steps⟩
  have D_one : Dn l.prog w K mg base CX0 2 "_law_one" ["_law_draw", "_law_some"] spOneT := ⟨_, _, ok_one F_one T D_pick, m_one, k_one, b_one⟩
  have D_same := same_all (P := l.prog) (w := w) (base := base) F_same T b_same m_same k_same
  have D_step_on : Dn l.prog w K mg base CX0 2 "_law_step_on" ["_law_rows", "_law_one_here"] spStepOn := ⟨_, _, ok_step_on F_step_on T, m_step_on, k_step_on, b_step_on⟩
  have D_steps_on : Dn l.prog w K mg base CX0 3 "_law_steps_on" ["_law_rows", "_law_some"] spSteps := ⟨_, _, ok_steps_on F_steps_on T D_step_on, m_steps_on, k_steps_on, b_steps_on⟩
  exact ok_law F_law T D_begin D_pick (D_same 3) D_one D_behind_steps D_steps_on
theorem walk {l : PySem.W.OpenLaw} {q : Program} {loose : List Str} {XP : (Str → Option Value) → Heap → Prop} {YP : World → Heap → Prop} {d : DefRec} {K : Params → PySem.W.Frag} (hn : l.most = some 63) (hdf : d.params.defaults = [])
    (hY : ∀ (w : World) (h : Heap), YP w h → (K w.params).In h)
    (F : ∀ (w : World) (mg : Str → Option Value) (fa : Addr) (h : Heap), (K w.params).In h → h.Ns mainGlobals mg → mg d.name = some (.ref fa) →
      ∃ fd : FuncData, (∀ (s : Shared) (u : Value), BindsTo s fd ⟨[u], []⟩ [("_law_script", u)]) ∧ ∀ base : Heap, (K w.params).In base → base.Ns mainGlobals mg → FnOk l.prog w (K w.params) mg base CX0 6 fa fd ["_law_script"] (spLaw (K w.params))) :
    PySem.W.WalkO q loose XP YP l.row.toRowW d [] (fun f vs => PySem.call f vs) :=
  L2.walk_of (n := 63) (k := 6) (x := "_law_script") (CX := fun _ => CX0) (sp := fun w => spLaw (K w.params)) hn (by decide) hdf ⟨rfl, by decide, by decide⟩ hY F (fun _ _ a ns hl _ hS => ⟨a, ns, rfl, hS, hl, fun _ => rfl⟩) fun _ _ _ _ _ z => z
end K27
open PySem PySem.W PyProof.Rows
set_option maxRecDepth 100000 in
set_option maxHeartbeats 0 in
theorem PySem.Challenge.cw_gridscope_k27_steps_done_on_drawings_holds : PySem.Challenge.rw_gridscope_k27_steps_done_on_drawings.Holds := by
  w_on; o_law; k_head; (case hw => w_witness2)
  k_fill
  refine K27.walk (l := PySem.Challenge.rw_gridscope_k27_steps_done_on_drawings) rfl rfl (fun w h Y => PySem.W.kIn_of Y) ?F
  case F =>
    intro w mg fa h KX G hmg
    refine' K27.all_mk KX G hmg ?a_shared ?l_shared ?c_shared ?k_shared ?a_has ?l_has ?c_has ?k_has ?a_with_put ?l_with_put ?c_with_put ?k_with_put ?a_behind_put ?l_behind_put ?c_behind_put ?k_behind_put ?a_behind_shift ?l_behind_shift ?c_behind_shift ?k_behind_shift ?a_behind_steps ?l_behind_steps ?c_behind_steps ?k_behind_steps ?a_begin ?l_begin ?c_begin ?k_begin ?a_pick ?l_pick ?c_pick ?k_pick ?a_one ?l_one ?c_one ?k_one ?a_same ?l_same ?c_same ?k_same ?a_step_on ?l_step_on ?c_step_on ?k_step_on ?a_steps_on ?l_steps_on ?c_steps_on ?k_steps_on ?a_law ?l_law ?c_law ?k_law ?z_max ?z_min ?z_len ?z_list ?z_isinstance ?z_bool ?z_int ?z_str ?z_tuple ?z_range ?z_all ?z_sum ?z_sorted ?z_any ?z_dict ?z_repr ?z_enumerate ?g_PUT
    (case a_shared => k_is); (case a_has => k_is); (case a_with_put => k_is); (case a_behind_put => k_is); (case a_behind_shift => k_is); (case a_behind_steps => k_is)
    (case a_begin => k_is); (case a_pick => k_is); (case a_one => k_is); (case a_same => k_is); (case a_step_on => k_is); (case a_steps_on => k_is)
    (case a_law => k_is); (case z_max => k_is); (case z_min => k_is); (case z_len => k_is); (case z_list => k_is); (case z_isinstance => k_is)
    (case z_bool => k_is); (case z_int => k_is); (case z_str => k_is); (case z_tuple => k_is); (case z_range => k_is); (case z_all => k_is)
    (case z_sum => k_is); (case z_sorted => k_is); (case z_any => k_is); (case z_dict => k_is); (case z_repr => k_is); (case z_enumerate => k_is)
    (case g_PUT => k_is); (case l_shared => k_is); (case c_shared => k_is); (case k_shared => k_is); (case l_has => k_is); (case c_has => k_is)
    (case k_has => k_is); (case l_with_put => k_is); (case c_with_put => k_is); (case k_with_put => k_is); (case l_behind_put => k_is); (case c_behind_put => k_is)
    (case k_behind_put => k_is); (case l_behind_shift => k_is); (case c_behind_shift => k_is); (case k_behind_shift => k_is); (case l_behind_steps => k_is); (case c_behind_steps => k_is)
    (case k_behind_steps => k_is); (case l_begin => k_is); (case c_begin => k_is); (case k_begin => k_is); (case l_pick => k_is); (case c_pick => k_is)
    (case k_pick => k_is); (case l_one => k_is); (case c_one => k_is); (case k_one => k_is); (case l_same => k_is); (case c_same => k_is)
    (case k_same => k_is); (case l_step_on => k_is); (case c_step_on => k_is); (case k_step_on => k_is); (case l_steps_on => k_is); (case c_steps_on => k_is)
    (case k_steps_on => k_is); (case l_law => k_is); (case c_law => k_is); (case k_law => k_is)
