import PyProof.Rows.All
import Wide.All
import OpenK.AllK
import Wide.FinOn
import HandS.ForMost
import HandS.Deep
import HandS.IsInst
import HandS.Codes
import HandS.ForExc
import HandS.RaiseMore
import HandS.FStr
import HandS.More
import HandS.Walk
import HandS.MakeKwOnly
import HandS.ExcIs
import HandS.OwnEq
import HandS.Text
import HandS.Defaults
import HandS.Iter
import HandS.TryOnly
import KE.KxText
import HandS.StrMore
import PySem.Challenge.RW_gridscope_k13_texts_laid_in_boxes
set_option Elab.async false
set_option linter.all false
set_option maxRecDepth 100000
set_option maxHeartbeats 4000000
namespace Gs
open PySem L2
/-! ### a def of the text, by its name, as its callers use it -/
def Dn (P : Program) (w : World) (K : PySem.W.Frag) (mg : Str → Option Value) (base : Heap) (CX : CXT) (k : Nat) (x : Str) (ps : List Str) (sp : Sp) : Prop :=
  ∃ (f : Addr) (fd : FuncData), FnOk P w K mg base CX k f fd ps sp ∧ mg x = some (.ref f) ∧ PySem.W.keepIn K (.ref f) = true ∧ Binds K fd ps []
theorem Dn.mono {P : Program} {w : World} {K : PySem.W.Frag} {mg : Str → Option Value} {base : Heap} {CX : CXT} {j k : Nat} {x : Str} {ps : List Str} {sp : Sp} (D : Dn P w K mg base CX j x ps sp) (h : j ≤ k) : Dn P w K mg base CX k x ps sp := by
  obtain ⟨f, fd, F, m, kp, b⟩ := D
  exact ⟨f, fd, F.mono h, m, kp, b⟩
theorem Dn.imp {P : Program} {w : World} {K : PySem.W.Frag} {mg : Str → Option Value} {base : Heap} {CX : CXT} {k : Nat} {x : Str} {ps : List Str} {sp sp' : Sp} (D : Dn P w K mg base CX k x ps sp) (h : ∀ vs H Q E, sp' vs H Q E → sp vs H Q E) : Dn P w K mg base CX k x ps sp' := by
  obtain ⟨f, fd, F, m, kp, b⟩ := D
  exact ⟨f, fd, F.imp h, m, kp, b⟩
theorem pe_callD {X : Cx} {CX : CXT} {k : Nat} {x : Str} {ps : List Str} {sp : Sp} {E : XK} {p pos : Pos} {e : Expr} {es : List Expr} {t : TA} (D : Dn X.prog X.w X.K X.mg X.base CX k x ps sp) (hr : Room k X.A) (hg : Gl X x) (hx : Passes CX X E)
    (ha : PA X (e :: es) t) (hdb : (x == ("__debug__" : Str)) = false := by decide) (he : starEach (e :: es) X.env = (false, eval e X.env) :: starEach es X.env := by rfl) (hpl : (backTo pos (starEach es X.env)).any (·.1) = false := by rfl) :
    PE X (.Call (.Name x p) (e :: es) [] pos) (tCall sp [] E t) := by
  obtain ⟨f, fd, F, m, kp, b⟩ := D
  exact pe_call F hr hg m kp b .nil hx ha hdb he hpl
theorem pe_callSD {X : Cx} {CX : CXT} {k : Nat} {x : Str} {ps : List Str} {sp : Sp} {E : St → XK} {p pos : Pos} {e : Expr} {es : List Expr} {t : TA} (D : Dn X.prog X.w X.K X.mg X.base CX k x ps sp) (hr : Room k X.A) (hg : Gl X x) (hx : ∀ σ, PassesAt CX X σ (E σ))
    (ha : PA X (e :: es) t) (hdb : (x == ("__debug__" : Str)) = false := by decide) (he : starEach (e :: es) X.env = (false, eval e X.env) :: starEach es X.env := by rfl) (hpl : (backTo pos (starEach es X.env)).any (·.1) = false := by rfl) :
    PE X (.Call (.Name x p) (e :: es) [] pos) (tCallS sp E t) := by
  obtain ⟨f, fd, F, m, kp, b⟩ := D
  exact pe_callS F hr hg m kp b hx ha hdb he hpl
/-- what the top says of an own exception class without a method of its own -/
structure ExcOk (K : PySem.W.Frag) (mg : Str → Option Value) (x : Str) (C : Addr) (bm : List Value) (nid : String) : Prop where
  g : mg x = some (.ref C)
  ex : PySem.W.excIn K C bm nid = true
  kp : PySem.W.keepIn K (.ref C) = true
  b : PySem.W.subIn K (.ref C) (.type "BaseException") = some true
  t : PySem.W.typeIn K (.ref C) = some (.type "type")
  cl : PySem.W.isClsIn K C = true
  sf : PySem.W.subIn K (.ref C) (.ref C) = some true
theorem exm_own {K : PySem.W.Frag} {cls : Value} {C : Addr} {b : Bool} (hb : PySem.W.subIn K (.ref C) (.type "BaseException") = some true) (hc : PySem.W.isClsIn K C = true) (ht : PySem.W.typeIn K (.ref C) = some (.type "type")) (hs : PySem.W.subIn K cls (.ref C) = some b) : PySem.W.exmOne K cls (.ref C) = some b := by
  have h1 : PySem.W.kitCls K cls (.ref C) = some b := by
    show (if ((PySem.W.clsIn K C).isSome && PySem.W.typeIn K (.ref C) == some (.type "type")) = true then PySem.W.subIn K cls (.ref C) else none) = some b
    have h2 : (PySem.W.clsIn K C).isSome = true := hc
    rw [h2, ht, if_pos (by simp)]
    exact hs
  unfold PySem.W.exmOne
  rw [hb, if_pos (by simp)]
  exact h1
theorem ExcOk.me {K : PySem.W.Frag} {mg : Str → Option Value} {x : Str} {C : Addr} {bm : List Value} {nid : String} (e : ExcOk K mg x C bm nid) : PySem.W.exmOne K (.ref C) (.ref C) = some true := exm_own e.b e.cl e.t e.sf
abbrev ieL : List Value := [.type "IndexError", .type "LookupError", .type "Exception", .type "BaseException", .type "object"]
abbrev leL : List Value := [.type "LookupError", .type "Exception", .type "BaseException", .type "object"]
abbrev veL : List Value := [.type "ValueError", .type "Exception", .type "BaseException", .type "object"]
theorem glS {X : Cx} {x z : Str} {t : Tok} {pos : Pos} (hg : Gl X x) (hm : X.mg x = some (.str z t)) (hd : (x == ("__debug__" : Str)) = false := by decide) : PE X (.Name x pos) (tC (.str z)) := pe_glob hg hm ⟨t, rfl⟩ hd
theorem glI {X : Cx} {x : Str} {i : Int} {t : Tok} {pos : Pos} (hg : Gl X x) (hm : X.mg x = some (.int i t)) (hd : (x == ("__debug__" : Str)) = false := by decide) : PE X (.Name x pos) (tC (.int i)) := pe_glob hg hm ⟨t, rfl⟩ hd
/-! ### heaps -/
theorem same_new {H : Hp} {p : Addr} (h : H p = none) (o : HO) : Same H (upd H p o) := fun b u q => by rw [upd_ne (ne_of_none q h)]; exact q
theorem Same.tup {K : PySem.W.Frag} {H H' : Hp} {a : Addr} {xs : List V} (e : Same H H') (h : SqT K H a xs) : SqT K H' a xs := by
  rcases h with (h | ⟨o, h⟩) | h
  · exact .inl (.inl (e _ _ h))
  · exact .inl (.inr ⟨o, e _ _ h⟩)
  · exact .inr h
theorem small {n : Nat} (h : n ≤ 1000) : n ≤ sizeLine := Nat.le_of_lt (small1000 h)
/-! ### data at any depth -/
mutual
theorem dp_same {K : PySem.W.Frag} {H H' : Hp} (e : Same H H') : ∀ (d : PyData) (v : V), Dp K H v d → Dp K H' v d
  | .none, _, h => by cases h; exact .non
  | .bool b, _, h => by cases h; exact .bl b
  | .int i, _, h => by cases h; exact .int i
  | .str x, _, h => by cases h; exact .str x
  | .list ds, _, h => by
    cases h with
    | lst s a => exact .lst (e.seq s) (dpAll_same e ds _ a)
  | .tuple ds, _, h => by
    cases h with
    | tup s a => exact .tup (Same.tup e s) (dpAll_same e ds _ a)
  | .dict b, _, h => by cases h
theorem dpAll_same {K : PySem.W.Frag} {H H' : Hp} (e : Same H H') : ∀ (ds : List PyData) (vs : List V), DpAll K H vs ds → DpAll K H' vs ds
  | [], _, h => by cases h; exact .nil
  | d :: ds, _, h => by
    cases h with
    | cons a b => exact .cons (dp_same e d _ a) (dpAll_same e ds _ b)
end
theorem dpI {K : PySem.W.Frag} {H : Hp} {i j : Int} (e : i = j) : Dp K H (.int i) (.int j) := by subst e; exact .int _
theorem dpB {K : PySem.W.Frag} {H : Hp} {i j : Bool} (e : i = j) : Dp K H (.bl i) (.bool j) := by subst e; exact .bl _
theorem dpS {K : PySem.W.Frag} {H : Hp} {i j : Str} (e : i = j) : Dp K H (.str i) (.str j) := by subst e; exact .str _
theorem dpAll_len {K : PySem.W.Frag} {H : Hp} : ∀ {vs : List V} {ds : List PyData}, DpAll K H vs ds → vs.length = ds.length
  | _, _, .nil => rfl
  | _, _, .cons _ b => by simp [dpAll_len b]
theorem dpAll_get {K : PySem.W.Frag} {H : Hp} : ∀ {vs : List V} {ds : List PyData} {i : Nat} {d : PyData}, DpAll K H vs ds → ds[i]? = some d → ∃ v, vs[i]? = some v ∧ Dp K H v d
  | _, _, _, _, .nil, e => by simp at e
  | _, _, 0, _, .cons a _, e => by simp at e; subst e; exact ⟨_, rfl, a⟩
  | _, _, i + 1, _, .cons _ b, e => by simpa using dpAll_get (i := i) b (by simpa using e)

/-! ### the law's own helpers: what each of them promises -/
/-- a draw: what is left of the script, its place, what is left of a great number, the seed, the count -/
def drawO (l : Addr) (i left seed n : Int) : HO := .lst [.ref l, .int i, .int left, .int seed, .int n]
def DrawAt (H : Hp) (a : Addr) : Prop := ∃ (l : Addr) (ns : List Int) (i left seed n : Int), H a = some (drawO l i left seed n) ∧ H l = some (.lst (ns.map V.int)) ∧ 0 ≤ i ∧ 0 ≤ seed ∧ seed < 1000000007
/-- all but the draw is as it was -/
def Ext (a : Addr) (H H' : Hp) : Prop := DrawAt H' a ∧ ∀ b o, b ≠ a → H b = some o → H' b = some o
theorem DrawAt.ne {H : Hp} {a l : Addr} {i left seed n : Int} {ns : List Int} (h1 : H a = some (drawO l i left seed n)) (h2 : H l = some (.lst (ns.map V.int))) : l ≠ a := by
  refine ne_of h2 h1 ?_
  intro e
  unfold drawO at e
  cases ns with
  | nil => simp at e
  | cons x r => simp at e
theorem DrawAt.same {H H' : Hp} {a : Addr} (d : DrawAt H a) (e : Same H H') : DrawAt H' a := by
  obtain ⟨l, ns, i, left, seed, n, h1, h2, r⟩ := d
  exact ⟨l, ns, i, left, seed, n, e _ _ h1, e _ _ h2, r⟩
theorem Ext.trans {a : Addr} {H H1 H2 : Hp} (x : Ext a H H1) (y : Ext a H1 H2) : Ext a H H2 := ⟨y.1, fun b o n h => y.2 b o n (x.2 b o n h)⟩
theorem Ext.same {a : Addr} {H H1 H2 : Hp} (x : Ext a H H1) (y : Same H1 H2) : Ext a H H2 := ⟨x.1.same y, fun b o n h => y b o (x.2 b o n h)⟩
theorem Ext.of {a : Addr} {H H1 : Hp} (d : DrawAt H a) (y : Same H H1) : Ext a H H1 := ⟨d.same y, fun b o _ h => y b o h⟩
theorem DrawAt.neT {H : Hp} {a b : Addr} {xs : List V} (d : DrawAt H a) (h : H b = some (.tup xs)) : b ≠ a := by
  obtain ⟨l, ns, i, left, seed, n, h1, h2, r⟩ := d
  exact ne_of h h1 (by intro e; unfold drawO at e; cases e)
/-- a tuple stays -/
theorem Ext.tup {a b : Addr} {H H1 : Hp} {xs : List V} (x : Ext a H H1) (d : DrawAt H a) (h : H b = some (.tup xs)) : H1 b = some (.tup xs) := x.2 b _ (d.neT h) h
/-! the longest list or tuple in it -/
mutual
def mxl : PyData → Nat
  | .list ds => max ds.length (mxlAll ds)
  | .tuple ds => max ds.length (mxlAll ds)
  | _ => 0
def mxlAll : List PyData → Nat
  | [] => 0
  | d :: r => max (mxl d) (mxlAll r)
end
theorem mxl_get : ∀ {ds : List PyData} {i : Nat} {d : PyData}, ds[i]? = some d → mxl d ≤ mxlAll ds
  | [], _, _, e => by simp at e
  | x :: r, 0, d, e => by
    simp at e
    subst e
    simp only [mxlAll]
    omega
  | x :: r, i + 1, d, e => by
    have := mxl_get (ds := r) (i := i) (d := d) (by simpa using e)
    simp only [mxlAll]
    omega
def spBegin (K : PySem.W.Frag) : Sp := fun vs H Q _ => ∃ (s : Addr) (ns : List Int), vs = [.ref s] ∧ SqL K H s (ns.map V.int) ∧ ∀ (a : Addr) (H' : Hp), H a = none → DrawAt H' a → Same H H' → Q (.ref a) H'
def spPick : Sp := fun vs H Q _ => ∃ (a : Addr) (many : Int), vs = [.ref a, .int many] ∧ DrawAt H a ∧ 1 ≤ many ∧ many < 1073741824 ∧
  ∀ (r : Int) (H' : Hp), 0 ≤ r → r < many → DrawAt H' a → (∀ b, b ≠ a → H' b = H b) → Q (.int r) H'
def spSame (K : PySem.W.Frag) (n : Nat) : Sp := fun vs H Q _ => ∃ (x y : V) (d : PyData), vs = [x, y] ∧ Dp K H x d ∧ Dp K H y d ∧ d.depth < n ∧ mxl d ≤ 100000 ∧ ∀ H', Same H H' → Q (.bl true) H'
theorem same_none {P : Program} {w : World} {K : PySem.W.Frag} {mg : Str → Option Value} {base : Heap} {f : Addr} {fd : FuncData} : FnOk P w K mg base CX0 0 f fd ["_law_found", "_law_due"] (spSame K 0) := by
  have no : ∀ vs H Q E, ¬ spSame K 0 vs H Q E := fun vs H Q E h => by
    obtain ⟨x, y, d, _, _, _, h1, _⟩ := h
    omega
  exact ⟨fun vs H Q E h => absurd h (no vs H Q E), fun A outer s H args us vs Q E _ _ _ _ h => absurd h (no vs H Q E)⟩
/-! ### isinstance -/
theorem kit2 {K : PySem.W.Frag} {a b c : String} {r1 r2 : Bool} (h : kitB a b = some r1) (h2 : kitB a c = some r2) : PySem.W.kitAny K (.type a) [.type b, .type c] = some (r1 || r2) := by
  refine kitAny_cons (kit_ty h) (fun e => ?_) (fun e => by rw [e]; rfl)
  rw [e, Bool.false_or]
  refine kitAny_cons (kit_ty h2) (fun e => ?_) (fun e => e)
  rw [e]
  rfl
theorem cls2 (b c : String) : Paired ClsV [.ty b, .ty c] [.type b, .type c] := .cons (.ty b) (.cons (.ty c) .nil)
theorem tyx_list {K : PySem.W.Frag} {H : Hp} {a : Addr} {xs : List V} (h : SqL K H a xs) : TyX K H (.ref a) (.type "list") := by
  rcases h with (h | ⟨o, h⟩) | ⟨o, its, n, h, c, _⟩
  · exact .base (.lst h)
  · exact .base (.frz h)
  · exact .kList h c
theorem tyx_tuple {K : PySem.W.Frag} {H : Hp} {a : Addr} {xs : List V} (h : SqT K H a xs) : TyX K H (.ref a) (.type "tuple") := by
  rcases h with (h | ⟨o, h⟩) | ⟨o, its, n, h, c, _⟩
  · exact .base (.tup h)
  · exact .fTuple h
  · exact .kTuple h c
theorem ixLk {X : Cx} {K : PySem.W.Frag} (h : X.K = K) : IxR X (rIxL K) := by subst h; exact ix_list
theorem ixTk {X : Cx} {K : PySem.W.Frag} (h : X.K = K) : IxR X (rIxT K) := by subst h; exact ix_tup
theorem ixQk {X : Cx} {K : PySem.W.Frag} (h : X.K = K) : IxR X (rIx K) := by subst h; exact ix_seq
theorem inDk {X : Cx} {K : PySem.W.Frag} (h : X.K = K) (hu : X.A.units + 65 < cLine) : OpR X (compareOp .In) (rInD K) := by subst h; exact op_inD hu
theorem ifT {c A B : Prop} [Decidable c] (h : c) (x : A) : if c then A else B := by rw [if_pos h]; exact x
theorem ifF {c A B : Prop} [Decidable c] (h : ¬ c) (x : B) : if c then A else B := by rw [if_neg h]; exact x
theorem cut_ints (ns : List Int) (lo hi : Option Int) : ∃ ms : List Int, cutV (ns.map V.int) lo hi = ms.map V.int := by
  unfold cutV
  exact ⟨_, by rw [← List.map_drop, ← List.map_take]⟩
theorem shaped_bool (b : Bool) : SeqAt.shaped (.bool b) = true := by simp [SeqAt.shaped, PyData.canLay0, PyData.depth]
theorem shaped_int (b : Int) : SeqAt.shaped (.int b) = true := by simp [SeqAt.shaped, PyData.canLay0, PyData.depth]
theorem shaped_eqv {d : PyData} (h : SeqAt.shaped d = true) : PyData.eqv d d = true := SeqAt.eqv_refl d (SeqAt.canLay_of_shaped h)
theorem depth_get : ∀ {ds : List PyData} {i : Nat} {d : PyData}, ds[i]? = some d → d.depth ≤ PyData.depthAll ds
  | [], _, _, e => by simp at e
  | x :: r, 0, d, e => by
    simp at e
    subst e
    simp only [PyData.depthAll]
    omega
  | x :: r, i + 1, d, e => by
    have := depth_get (ds := r) (i := i) (d := d) (by simpa using e)
    simp only [PyData.depthAll]
    omega
theorem rep_bl (n : Nat) : List.replicate n (V.bl true) = (List.replicate n true).map V.bl := by simp
theorem rep_all (n : Nat) : (List.replicate n true).all id = true := by simp
theorem rep_succ (n : Nat) : List.replicate n (V.bl true) ++ [V.bl true] = List.replicate (n + 1) (V.bl true) := by
  rw [← List.replicate_succ']
end Gs

set_option Elab.async false
set_option linter.all false
set_option maxRecDepth 100000
set_option maxHeartbeats 4000000
namespace Gs
open PySem L2
/-! ### methods of an own class -/
def Mn (P : Program) (w : World) (K : PySem.W.Frag) (mg : Str → Option Value) (base : Heap) (CX : CXT) (k : Nat) (C : Addr) (m : Str) (ps : List Str) (sp : Sp) : Prop :=
  ∃ (f : Addr) (fd : FuncData), FnOk P w K mg base CX k f fd ps sp ∧ Meth K C m f ∧ Binds K fd ps []
theorem Mn.mono {P : Program} {w : World} {K : PySem.W.Frag} {mg : Str → Option Value} {base : Heap} {CX : CXT} {j k : Nat} {C : Addr} {m : Str} {ps : List Str} {sp : Sp} (D : Mn P w K mg base CX j C m ps sp) (h : j ≤ k) : Mn P w K mg base CX k C m ps sp := by
  obtain ⟨f, fd, F, m, b⟩ := D
  exact ⟨f, fd, F.mono h, m, b⟩
theorem Mn.imp {P : Program} {w : World} {K : PySem.W.Frag} {mg : Str → Option Value} {base : Heap} {CX : CXT} {k : Nat} {C : Addr} {m : Str} {ps : List Str} {sp sp' : Sp} (D : Mn P w K mg base CX k C m ps sp) (h : ∀ vs H Q E, sp' vs H Q E → sp vs H Q E) : Mn P w K mg base CX k C m ps sp' := by
  obtain ⟨f, fd, F, m, b⟩ := D
  exact ⟨f, fd, F.imp h, m, b⟩
section
variable {X : Cx} {CX : CXT} {k : Nat} {C : Addr} {m : Str} {ps : List Str} {sp : Sp} {p pos apos : Pos} {e o : Expr} {es : List Expr} {ta : TE} {t : TA}
theorem pe_methD {E : XK} {pl : Sem Bool} (c : Cls X.K C) (D : Mn X.prog X.w X.K X.mg X.base CX k C m ps sp) (hr : Room k X.A) (hx : Passes CX X E) (he : PE X o ta) (ha : PA X (e :: es) t)
    (hst : starEach (e :: es) X.env = (false, eval e X.env) :: starEach es X.env := by rfl) (hpl : (backTo pos (starEach es X.env)).any (·.1) = false := by rfl)
    (ht : eval (.Call (.Attribute o m apos) (e :: es) [] pos) X.env = (do let ov ← eval o X.env; standAt apos.atName; let (f, first) ← holding [ov] (getMethod ov m pl); callWith pos f first (backTo pos (starEach (e :: es) X.env)) (backToKw pos (keywordEach [] X.env))) := by rfl) :
    PE X (.Call (.Attribute o m apos) (e :: es) [] pos) (tMeth C m sp [] E ta t) := by
  obtain ⟨f, fd, F, hm, b⟩ := D
  exact pe_meth he c hm F hr b .nil hx ha hst hpl ht
theorem pe_methD0 {E : XK} {pl : Sem Bool} (c : Cls X.K C) (D : Mn X.prog X.w X.K X.mg X.base CX k C m ps sp) (hr : Room k X.A) (hx : Passes CX X E) (he : PE X o ta)
    (ht : eval (.Call (.Attribute o m apos) [] [] pos) X.env = (do let ov ← eval o X.env; standAt apos.atName; let (f, first) ← holding [ov] (getMethod ov m pl); callWith pos f first (backTo pos (starEach [] X.env)) (backToKw pos (keywordEach [] X.env))) := by rfl) :
    PE X (.Call (.Attribute o m apos) [] [] pos) (tMeth C m sp [] E ta tNil) := by
  obtain ⟨f, fd, F, hm, b⟩ := D
  exact pe_meth0 he c hm F hr b .nil hx ht
/-- within a try: what is raised is wished for at the slots -/
def tMethAt (C : Addr) (m : Str) (sp : Sp) (E : St → XK) (ta : TE) (t : TA) : TE := fun σ H Q => ta σ H fun x H1 => ∃ a dx fs, x = .ref a ∧ H1 a = some (.ins C dx fs) ∧ fs.lookup m = none ∧ t σ H1 fun vs H2 => sp (x :: vs) H2 Q (E σ)
theorem pe_methSD {E : St → XK} {pl : Sem Bool} (c : Cls X.K C) (D : Mn X.prog X.w X.K X.mg X.base CX k C m ps sp) (hr : Room k X.A) (hx : ∀ σ, PassesAt CX X σ (E σ)) (he : PE X o ta) (ha : PA X (e :: es) t)
    (hst : starEach (e :: es) X.env = (false, eval e X.env) :: starEach es X.env := by rfl) (hpl : (backTo pos (starEach es X.env)).any (·.1) = false := by rfl)
    (ht : eval (.Call (.Attribute o m apos) (e :: es) [] pos) X.env = (do let ov ← eval o X.env; standAt apos.atName; let (f, first) ← holding [ov] (getMethod ov m pl); callWith pos f first (backTo pos (starEach (e :: es) X.env)) (backToKw pos (keywordEach [] X.env))) := by rfl) :
    PE X (.Call (.Attribute o m apos) (e :: es) [] pos) (tMethAt C m sp E ta t) := by
  obtain ⟨f, fd, F, hm, b⟩ := D
  refine ⟨fun pins s σ H Q I h => PySem.W.methodCall_KW (pl := pl) (thn (he.run pins s σ H _ I h) fun u s1 hh => ?_) ht⟩
  obtain ⟨x, H1, I1, rx, a, dx, fs, ex, ea, l, q⟩ := hh
  subst ex
  obtain rfl : u = Value.ref a := rx
  refine getmeth_ok I1 ea c hm l (PySem.W.callWith_K (first := [.ref a]) (h₀ := X.base) I.ok.mod.kin hm.kp (thn (ha.run pos pins s1 σ H1 _ I1 q) fun us s2 hh => ?_) hst hpl)
  obtain ⟨vs, H2, I2, r, q2⟩ := hh
  exact ⟨I2.kIn, run_fnS (us := .ref a :: us) (vs := .ref a :: vs) F hr b (hx σ) I2 (.cons rfl r) q2⟩
theorem fldK {K : PySem.W.Frag} {f : Str} (h : X.K = K) (he : PE X o ta) (hb : attributeBase o f X.env (eval o X.env) = eval o X.env) : PE X (.Attribute o f pos) (tFld K ta f) := by
  subst h
  exact pe_fld he hb
end
/-! ### ints that may be written in a text -/
def Sm (i : Int) : Prop := i.natAbs < 2 ^ 200
theorem Sm.log {i : Int} (h : Sm i) : i.natAbs.log2 < 1920 := by
  by_cases z : i.natAbs = 0
  · rw [z]
    decide
  · have h1 : i.natAbs.log2 < 200 := (Nat.log2_lt z).mpr h
    omega
theorem Sm.of {i : Int} (h0 : -(10 ^ 40) ≤ i) (h1 : i ≤ 10 ^ 40) : Sm i := by
  have : i.natAbs ≤ 10 ^ 40 := by omega
  exact Nat.lt_of_le_of_lt this (by decide)
theorem Sm.len {i : Int} (h : Sm i) : (Str.ofString (toString i)).length ≤ 201 := by
  have h1 : i.natAbs.log2 < 200 := by
    by_cases z : i.natAbs = 0
    · rw [z]
      decide
    · exact (Nat.log2_lt z).mpr h
  have e := PySem.int_text_length_le (k := 200) (by decide) h1
  rw [PySem.ofString_length]
  exact e
/-! ### repr of an own class -/
def rRepr (C : Addr) (sp : Sp) (E : XK) : List V → Hp → VK → Prop := fun xs H Q => ∃ a dx fs, xs = [.ref a] ∧ H a = some (.ins C dx fs) ∧ sp [.ref a] H (fun v H' => (∃ z, v = .str z) ∧ Q v H') E
theorem call_repr {X : Cx} {CX : CXT} {k : Nat} {C f : Addr} {fd : FuncData} {ps : List Str} {sp : Sp} {E : XK} (F : FnOk X.prog X.w X.K X.mg X.base CX k f fd ps sp) (hs : PySem.W.findIn X.K (.ref C) "__repr__" = some (some (.ref f))) (hf : PySem.W.isFn X.K (.ref f) = true)
    (hb : Binds X.K fd ps []) (hr : Room (k + 1) X.A) (hx : Passes CX X E) : CallR X (.builtin "repr") (rRepr C sp E) := by
  intro pins s σ H xs us Q I r h
  obtain ⟨a, dx, fs, rfl, ha, hsp⟩ := h
  obtain ⟨u, rfl, ru⟩ := vals1 r
  cases ru
  obtain ⟨mA, J, _⟩ := ins_get I.hok ha
  obtain ⟨od, J, _⟩ := J.look
  obtain ⟨m, hF⟩ := I.fr
  have e := I.env0
  have e0 : Env0 X.prog X.w X.K X.mg X.base X.A.in1 X.stack s H := ⟨e.frames, e.mod, e.bs, e.bsz, e.funs, e.frf, e.hok, e.bare⟩
  have hl := F.len _ _ _ _ hsp
  refine PySem.W.repr_K hr.in1.units0 hF I.ok.mod.kin J hs hf ?_
  have b0 := hb s [.ref a] I.kIn (by rw [List.append_nil]; exact hl)
  rw [List.append_nil] at b0
  refine wpAny_call (codeAny_mono (F.run X.A.in1 X.stack s H ⟨[.ref a], []⟩ [.ref a] [.ref a] _ E hr.in1 e0 b0 (.cons rfl .nil) hsp) fun r s' hq => ?_)
  cases r with
  | error e => exact hx pins σ H s e s' I hq
  | ok fl =>
    cases fl with
    | ret w =>
      obtain ⟨z, H', I', rz, ⟨y, ez⟩, ex⟩ := I.after hq
      subst ez
      obtain ⟨tk, rfl⟩ := rz
      exact ⟨.str y, H', I', ⟨tk, rfl⟩, ex⟩
    | next => exact False.elim hq
    | brk => exact False.elim hq
    | cont => exact False.elim hq
/-! ### a row of sizes -/
structure Sz where
  many : Int
  common : Int
  odd : List (Int × Int × Bool)
def fldZ (n c : Int) (d : Addr) : List (Str × V) := putF "odd" (.ref d) (putF "common" (.int c) (putF "many" (.int n) []))
theorem ne1 : ¬ (("many" : Str) = "common") := by decide +kernel
theorem ne2 : ¬ (("many" : Str) = "odd") := by decide +kernel
theorem ne3 : ¬ (("common" : Str) = "odd") := by decide +kernel
theorem fldZ_eq (n c : Int) (d : Addr) : fldZ n c d = ([("many", .int n), ("common", .int c), ("odd", .ref d)] : List (Str × V)) := by
  unfold fldZ
  simp only [putF, if_neg ne1, if_neg ne2, if_neg ne3]
theorem fz_many (n c : Int) (d : Addr) : (fldZ n c d).lookup ("many" : Str) = some (.int n) := by
  unfold fldZ
  rw [lookup_putF, if_neg ne2, lookup_putF, if_neg ne1, lookup_putF, if_pos rfl]
theorem fz_common (n c : Int) (d : Addr) : (fldZ n c d).lookup ("common" : Str) = some (.int c) := by
  unfold fldZ
  rw [lookup_putF, if_neg ne3, lookup_putF, if_pos rfl]
theorem fz_odd (n c : Int) (d : Addr) : (fldZ n c d).lookup ("odd" : Str) = some (.ref d) := by
  unfold fldZ
  rw [lookup_putF, if_pos rfl]
theorem fz_no (n c : Int) (d : Addr) {m : Str} (h1 : (decide (m = "many") || decide (m = "common") || decide (m = "odd")) = false := by decide +kernel) : (fldZ n c d).lookup m = none := by
  simp only [Bool.or_eq_false_iff, decide_eq_false_iff_not] at h1
  unfold fldZ
  rw [lookup_putF, if_neg h1.2, lookup_putF, if_neg h1.1.2, lookup_putF, if_neg h1.1.1]
  rfl
theorem fz_put_odd (n c : Int) (d e : Addr) : putF "odd" (.ref e) (fldZ n c d) = fldZ n c e := by
  rw [fldZ_eq, fldZ_eq]
  simp only [putF, if_neg ne2, if_neg ne3, if_true]
theorem fz_put_many (n m c : Int) (d : Addr) : putF "many" (.int m) (fldZ n c d) = fldZ m c d := by
  rw [fldZ_eq, fldZ_eq]
  simp only [putF, if_true]
theorem fz_few (n c : Int) (d : Addr) : (fldZ n c d).length < 1000 := by rw [fldZ_eq]; show 3 < 1000; decide
abbrev OddE := Int × Int × Bool
def OddAt (H : Hp) (kvs : List (Key × V)) (odd : List OddE) : Prop := Paired (fun (kv : Key × V) (e : OddE) => kv.1 = Sum.inl e.1 ∧ ∃ t, kv.2 = .ref t ∧ H t = some (.tup [.int e.2.1, .bl e.2.2])) kvs odd
/-- tuples stay -/
def TupSame (H H' : Hp) : Prop := ∀ t xs, H t = some (.tup xs) → H' t = some (.tup xs)
theorem TupSame.of {H H' : Hp} (s : Same H H') : TupSame H H' := fun t xs h => s t _ h
theorem TupSame.trans {H H1 H2 : Hp} (a : TupSame H H1) (b : TupSame H1 H2) : TupSame H H2 := fun t xs h => b t xs (a t xs h)
theorem TupSame.upd {H : Hp} {D : Addr} {u : HO} (h : H D = some u) (hu : ∀ xs, u ≠ .tup xs) (o : HO) : TupSame H (L2.upd H D o) := fun t xs q => by
  rw [upd_ne (ne_of q h (fun e => hu xs e.symm))]
  exact q
theorem OddAt.mono {H H' : Hp} (s : TupSame H H') : ∀ {kvs : List (Key × V)} {odd : List OddE}, OddAt H kvs odd → OddAt H' kvs odd
  | _, _, .nil => .nil
  | _, _, .cons ⟨e, t, e2, h⟩ r => .cons ⟨e, t, e2, s _ _ h⟩ (OddAt.mono s r)
theorem OddAt.len {H : Hp} : ∀ {kvs : List (Key × V)} {odd : List OddE}, OddAt H kvs odd → kvs.length = odd.length
  | _, _, .nil => rfl
  | _, _, .cons _ r => by simp [OddAt.len r]
theorem OddAt.keys {H : Hp} : ∀ {kvs : List (Key × V)} {odd : List OddE}, OddAt H kvs odd → kvs.map (·.1) = (odd.map (·.1)).map Sum.inl
  | _, _, .nil => rfl
  | _, _, .cons ⟨e, _⟩ r => by simp [OddAt.keys r, e]
def look (odd : List OddE) (i : Int) : Option (Int × Bool) := (odd.find? fun e => decide (e.1 = i)).map (·.2)
theorem OddAt.look {H : Hp} : ∀ {kvs : List (Key × V)} {odd : List OddE} (i : Int), OddAt H kvs odd → (valV kvs (Sum.inl i) = none ∧ Gs.look odd i = none) ∨ ∃ t x, valV kvs (Sum.inl i) = some (.ref t) ∧ Gs.look odd i = some x ∧ H t = some (.tup [.int x.1, .bl x.2])
  | _, _, i, .nil => .inl ⟨rfl, rfl⟩
  | (k, v) :: kvs, (j, x) :: odd, i, .cons ⟨e, t, e2, h⟩ r => by
    simp only at e e2 h
    subst e e2
    by_cases hij : j = i
    · subst hij
      exact .inr ⟨t, x, by simp [valV], by simp [Gs.look], h⟩
    · have q1 : valV ((Sum.inl j, V.ref t) :: kvs) (Sum.inl i) = valV kvs (Sum.inl i) := by simp [valV, hij]
      have q2 : Gs.look ((j, x) :: odd) i = Gs.look odd i := by simp [Gs.look, hij]
      rw [q1, q2]
      exact OddAt.look i r
structure Wf (z : Sz) : Prop where
  m0 : 1 ≤ z.many
  m1 : z.many ≤ 1000000000
  c0 : 1 ≤ z.common
  c1 : z.common ≤ 60
  nd : (z.odd.map (·.1)).Nodup
  le : z.odd.length ≤ 60
  ok : ∀ e ∈ z.odd, 0 ≤ e.1 ∧ e.1 < z.many ∧ 1 ≤ e.2.1 ∧ e.2.1 ≤ 60 ∧ (e.2.1 ≠ z.common ∨ e.2.2 = true)
/-- a row of sizes stands at p, its dict at d: to be read -/
def SzR (C : Addr) (H : Hp) (p d : Addr) (z : Sz) : Prop := ∃ dx kvs, H p = some (.ins C dx (fldZ z.many z.common d)) ∧ Rd H d (.dK kvs) ∧ OddAt H kvs z.odd ∧ Wf z
/-- .. to be written -/
def SzW (C : Addr) (H : Hp) (p d : Addr) (z : Sz) : Prop := ∃ dx kvs, H p = some (.ins C dx (fldZ z.many z.common d)) ∧ H d = some (.dK kvs) ∧ OddAt H kvs z.odd ∧ Wf z
theorem SzW.r {C : Addr} {H : Hp} {p d : Addr} {z : Sz} (h : SzW C H p d z) : SzR C H p d z := by
  obtain ⟨dx, kvs, h1, h2, h3, h4⟩ := h
  exact ⟨dx, kvs, h1, .inl h2, h3, h4⟩
theorem Same.rd {H H' : Hp} (s : Same H H') {d : Addr} {u : HO} (r : Rd H d u) : Rd H' d u := by
  rcases r with r | ⟨o, r⟩
  · exact .inl (s _ _ r)
  · exact .inr ⟨o, s _ _ r⟩
theorem SzR.same {C : Addr} {H H' : Hp} {p d : Addr} {z : Sz} (h : SzR C H p d z) (s : Same H H') : SzR C H' p d z := by
  obtain ⟨dx, kvs, h1, h2, h3, h4⟩ := h
  exact ⟨dx, kvs, s _ _ h1, Same.rd s h2, h3.mono (TupSame.of s), h4⟩
theorem SzW.same {C : Addr} {H H' : Hp} {p d : Addr} {z : Sz} (h : SzW C H p d z) (s : Same H H') : SzW C H' p d z := by
  obtain ⟨dx, kvs, h1, h2, h3, h4⟩ := h
  exact ⟨dx, kvs, s _ _ h1, s _ _ h2, h3.mono (TupSame.of s), h4⟩
def stM (z : Sz) (i : Int) : Int × Bool := (look z.odd i).getD (z.common, false)
def szM (z : Sz) (i : Int) : Int := if (stM z i).2 = true then 0 else (stM z i).1
def inR (z : Sz) (i : Int) : Prop := 0 ≤ i ∧ i < z.many
/-! ### what the program's defs promise -/
def spNum (cN : Addr) : Sp := fun vs H Q E => ∃ i n : Int, vs = [.int i, .int n] ∧ Sm i ∧ Sm n ∧ (0 ≤ i ∧ i < n → Q .non H) ∧ (¬ (0 ≤ i ∧ i < n) → E (.ref cN) none H)
def spCS (cS : Addr) : Sp := fun vs H Q E => ∃ i : Int, vs = [.int i] ∧ Sm i ∧ (1 ≤ i ∧ i ≤ 60 → Q .non H) ∧ (¬ (1 ≤ i ∧ i ≤ 60) → E (.ref cS) none H)
def spState (C cN : Addr) : Sp := fun vs H Q E => ∃ (p d : Addr) (z : Sz) (i : Int), vs = [.ref p, .int i] ∧ SzR C H p d z ∧ Sm i ∧
  (inR z i → ∀ (t : Addr) (H' : Hp), Same H H' → H' t = some (.tup [.int (stM z i).1, .bl (stM z i).2]) → Q (.ref t) H') ∧ (¬ inR z i → E (.ref cN) none H)
def spQ (C cN : Addr) (g : Sz → Int → V) : Sp := fun vs H Q E => ∃ (p d : Addr) (z : Sz) (i : Int), vs = [.ref p, .int i] ∧ SzR C H p d z ∧ Sm i ∧ (inR z i → ∀ H', Same H H' → Q (g z i) H') ∧ (¬ inR z i → E (.ref cN) none H)
abbrev spSize (C cN : Addr) : Sp := spQ C cN fun z i => .int (szM z i)
abbrev spOwn (C cN : Addr) : Sp := spQ C cN fun z i => .int (stM z i).1
abbrev spHid (C cN : Addr) : Sp := spQ C cN fun z i => .bl (stM z i).2
def ahM (z : Sz) (i : Int) : Int := i * z.common + (((z.odd.map (·.1)).filter fun k => decide (k < i)).map fun k => szM z k - z.common).sum
def spAhead (C cN : Addr) : Sp := fun vs H Q E => ∃ (p d : Addr) (z : Sz) (i : Int), vs = [.ref p, .int i] ∧ SzW C H p d z ∧ Sm i ∧ (0 ≤ i ∧ i ≤ z.many → ∀ H', Same H H' → Q (.int (ahM z i)) H') ∧ (¬ (0 ≤ i ∧ i ≤ z.many) → E (.ref cN) none H)
def spTotal (C : Addr) : Sp := fun vs H Q _ => ∃ (p d : Addr) (z : Sz), vs = [.ref p] ∧ SzW C H p d z ∧ ∀ H', Same H H' → Q (.int (ahM z z.many)) H'
def spInit (C cM cS : Addr) : Sp := fun vs H Q E => ∃ (p dx : Addr) (n c : Int), vs = [.ref p, .int n, .int c] ∧ H p = some (.ins C dx []) ∧ Sm n ∧ Sm c ∧
  ((1 ≤ n ∧ n ≤ 1000000) ∧ (1 ≤ c ∧ c ≤ 60) → ∀ (d : Addr) (H' : Hp), H d = none → SzW C H' p d ⟨n, c, []⟩ → (∀ b o, H b = some o → b ≠ p → H' b = some o) → Q .non H') ∧
  (¬ (1 ≤ n ∧ n ≤ 1000000) → E (.ref cM) none H) ∧ ((1 ≤ n ∧ n ≤ 1000000) → ¬ (1 ≤ c ∧ c ≤ 60) → E (.ref cS) none H)
/-! ### small words for the loops -/
theorem OddAt.at_ {H : Hp} : ∀ {kvs : List (Key × V)} {odd : List OddE} {j : Nat} {k : Key} {v : V}, OddAt H kvs odd → kvs[j]? = some (k, v) → ∃ e, odd[j]? = some e ∧ k = Sum.inl e.1
  | _, _, _, _, _, .nil, q => by simp at q
  | _, _, 0, _, _, .cons ⟨e, _⟩ _, q => by
    simp at q
    subst q
    exact ⟨_, rfl, e⟩
  | _, _, j + 1, _, _, .cons _ r, q => by simpa using OddAt.at_ (j := j) r (by simpa using q)
theorem take_filter1 {α : Type} (l : List α) (p : α → Bool) {i : Nat} {x : α} (h : l[i]? = some x) : (l.take (i + 1)).filter p = (l.take i).filter p ++ (if p x = true then [x] else []) := by
  rw [List.take_add_one, h, List.filter_append]
  simp [List.filter_cons]
theorem take_map1 {α β : Type} (l : List α) (g : α → β) {i : Nat} {x : α} (h : l[i]? = some x) : (l.take (i + 1)).map g = (l.take i).map g ++ [g x] := by
  rw [List.take_add_one, h, List.map_append]
  rfl
/-- rows of exceptions -/
abbrev Ex3 := Int × Int × Bool
def exc1 (z : Sz) (k : Int) : Ex3 := (k, (stM z k).1, (stM z k).2)
def exD (e : Ex3) : PyData := .tuple [.int e.1, .int e.2.1, .bool e.2.2]
def DpT (H : Hp) (xs : List V) (es : List Ex3) : Prop := Paired (fun (v : V) (e : Ex3) => ∃ t, v = .ref t ∧ H t = some (.tup [.int e.1, .int e.2.1, .bl e.2.2])) xs es
theorem DpT.mono {H H' : Hp} (s : TupSame H H') : ∀ {xs : List V} {cs : List Ex3}, DpT H xs cs → DpT H' xs cs
  | _, _, .nil => .nil
  | _, _, .cons ⟨t, e, h⟩ r => .cons ⟨t, e, s _ _ h⟩ (DpT.mono s r)
theorem DpT.append {H : Hp} : ∀ {xs ys : List V} {cs ds : List Ex3}, DpT H xs cs → DpT H ys ds → DpT H (xs ++ ys) (cs ++ ds)
  | _, _, _, _, .nil, s => s
  | _, _, _, _, .cons a r, s => .cons a (DpT.append r s)
theorem DpT.len {H : Hp} : ∀ {xs : List V} {cs : List Ex3}, DpT H xs cs → xs.length = cs.length
  | _, _, .nil => rfl
  | _, _, .cons _ r => by simp [DpT.len r]
theorem DpT.dp {K : PySem.W.Frag} {H : Hp} : ∀ {xs : List V} {cs : List Ex3}, DpT H xs cs → DpAll K H xs (cs.map exD)
  | _, _, .nil => .nil
  | _, _, .cons ⟨t, e, h⟩ r => by
    subst e
    exact .cons (.tup (SqT.of h) (.cons (.int _) (.cons (.int _) (.cons (.bl _) .nil)))) (DpT.dp r)
def spExc (K : PySem.W.Frag) (C : Addr) : Sp := fun vs H Q _ => ∃ (p d : Addr) (z : Sz), vs = [.ref p] ∧ SzW C H p d z ∧ ∀ (ys : List Int) (l : Addr) (H' : Hp), ys.Perm (z.odd.map (·.1)) → ys.Pairwise (· ≤ ·) → Same H H' → Dp K H' (.ref l) (.list ((ys.map (exc1 z)).map exD)) → Q (.ref l) H'
def reprM (z : Sz) : Str := Str.empty ++ ("Sizes " : Str) ++ (toString z.many : String) ++ (" " : Str) ++ (toString z.common : String)
def spRepr (C : Addr) : Sp := fun vs H Q _ => ∃ (p d : Addr) (z : Sz), vs = [.ref p] ∧ SzR C H p d z ∧ Q (.str (reprM z)) H
end Gs

set_option Elab.async false
set_option linter.all false
set_option maxRecDepth 100000
set_option maxHeartbeats 4000000
namespace Gs
open PySem L2
/-! ### the law's own model of a row of sizes: a dict of two counts and two dicts -/
structure Zs where
  many : Int
  common : Int
  own : List (Int × Int)
  gone : List Int
def zL (n c : Int) (o g : Addr) : List (Key × V) := [(Sum.inr "many", .int n), (Sum.inr "common", .int c), (Sum.inr "own", .ref o), (Sum.inr "gone", .ref g)]
theorem nz1 : ¬ ("many" : Str) = "common" := by decide +kernel
theorem nz2 : ¬ ("many" : Str) = "own" := by decide +kernel
theorem nz3 : ¬ ("many" : Str) = "gone" := by decide +kernel
theorem nz4 : ¬ ("common" : Str) = "own" := by decide +kernel
theorem nz5 : ¬ ("common" : Str) = "gone" := by decide +kernel
theorem nz6 : ¬ ("own" : Str) = "gone" := by decide +kernel
theorem zl_many (n c : Int) (o g : Addr) : some (V.int n) = valV (zL n c o g) (Sum.inr "many") := by simp [valV, zL]
theorem zl_common (n c : Int) (o g : Addr) : some (V.int c) = valV (zL n c o g) (Sum.inr "common") := by simp [valV, zL, nz1]
theorem zl_own (n c : Int) (o g : Addr) : some (V.ref o) = valV (zL n c o g) (Sum.inr "own") := by simp [valV, zL, nz2, nz4]
theorem zl_gone (n c : Int) (o g : Addr) : some (V.ref g) = valV (zL n c o g) (Sum.inr "gone") := by simp [valV, zL, nz3, nz5, nz6]
def ownK (l : List (Int × Int)) : List (Key × V) := l.map fun e => (Sum.inl e.1, .int e.2)
def goneK (l : List Int) : List (Key × V) := l.map fun k => (Sum.inl k, .bl true)
def zown (own : List (Int × Int)) (k : Int) : Option Int := (own.find? fun e => decide (e.1 = k)).map (·.2)
theorem own_val : ∀ (own : List (Int × Int)) (k : Int), valV (ownK own) (Sum.inl k) = (zown own k).map V.int
  | [], k => rfl
  | (j, x) :: r, k => by
    by_cases h : j = k
    · subst h
      simp [valV, ownK, zown]
    · have q1 : valV (ownK ((j, x) :: r)) (Sum.inl k) = valV (ownK r) (Sum.inl k) := by simp [valV, ownK, h]
      have q2 : zown ((j, x) :: r) k = zown r k := by simp [zown, h]
      rw [q1, q2]
      exact own_val r k
theorem gone_val : ∀ (gone : List Int) (k : Int), valV (goneK gone) (Sum.inl k) = if k ∈ gone then some (.bl true) else none
  | [], k => rfl
  | j :: r, k => by
    by_cases h : j = k
    · subst h
      simp [valV, goneK]
    · have h' : ¬ k = j := fun z => h z.symm
      have q1 : valV (goneK (j :: r)) (Sum.inl k) = valV (goneK r) (Sum.inl k) := by simp [valV, goneK, h]
      rw [q1, gone_val r k]
      simp [h']
theorem gone_some (gone : List Int) (k : Int) : (valV (goneK gone) (Sum.inl k)).isSome = decide (k ∈ gone) := by
  rw [gone_val]
  by_cases h : k ∈ gone
  · rw [if_pos h, decide_eq_true h]
    rfl
  · rw [if_neg h, decide_eq_false h]
    rfl
def zkeys (z : Zs) : List Int := z.own.map (·.1) ++ z.gone.filter fun k => !(zown z.own k).isSome
structure Zok (z : Zs) : Prop where
  m0 : 1 ≤ z.many
  m1 : z.many ≤ 1000000000
  c0 : 1 ≤ z.common
  c1 : z.common ≤ 60
  le : (zkeys z).length < 64
  l1 : z.own.length ≤ 1000
  l2 : z.gone.length ≤ 1000
  ok : ∀ k ∈ zkeys z, 0 ≤ k ∧ k < z.many
structure ZAt (H : Hp) (a o g : Addr) (z : Zs) : Prop where
  ha : H a = some (.dK (zL z.many z.common o g))
  ho : H o = some (.dK (ownK z.own))
  hg : H g = some (.dK (goneK z.gone))
  ao : a ≠ o
  ag : a ≠ g
  og : o ≠ g
  ok : Zok z
theorem ZAt.same {H H' : Hp} {a o g : Addr} {z : Zs} (h : ZAt H a o g z) (s : Same H H') : ZAt H' a o g z := ⟨s _ _ h.ha, s _ _ h.ho, s _ _ h.hg, h.ao, h.ag, h.og, h.ok⟩
theorem dg_many {H : Hp} {a o g : Addr} {n c : Int} (h : H a = some (.dK (zL n c o g))) : DGet H a (.str "many") (some (.int n)) := .inl ⟨_, Sum.inr "many", .inl h, rfl, zl_many n c o g⟩
theorem dg_common {H : Hp} {a o g : Addr} {n c : Int} (h : H a = some (.dK (zL n c o g))) : DGet H a (.str "common") (some (.int c)) := .inl ⟨_, Sum.inr "common", .inl h, rfl, zl_common n c o g⟩
theorem dg_own {H : Hp} {a o g : Addr} {n c : Int} (h : H a = some (.dK (zL n c o g))) : DGet H a (.str "own") (some (.ref o)) := .inl ⟨_, Sum.inr "own", .inl h, rfl, zl_own n c o g⟩
theorem dg_gone {H : Hp} {a o g : Addr} {n c : Int} (h : H a = some (.dK (zL n c o g))) : DGet H a (.str "gone") (some (.ref g)) := .inl ⟨_, Sum.inr "gone", .inl h, rfl, zl_gone n c o g⟩
theorem dg_own1 {H : Hp} {o : Addr} {own : List (Int × Int)} (h : H o = some (.dK (ownK own))) (k : Int) : DGet H o (.int k) ((zown own k).map V.int) := .inl ⟨_, Sum.inl k, .inl h, rfl, (own_val own k).symm⟩
theorem dg_gone1 {H : Hp} {g : Addr} {gone : List Int} (h : H g = some (.dK (goneK gone))) (k : Int) : DGet H g (.int k) (valV (goneK gone) (Sum.inl k)) := .inl ⟨_, Sum.inl k, .inl h, rfl, rfl⟩
def zst (z : Zs) (k : Int) : Int × Bool := ((zown z.own k).getD z.common, decide (k ∈ z.gone))
def zsz (z : Zs) (k : Int) : Int := if k ∈ z.gone then 0 else (zown z.own k).getD z.common
theorem opt_int (o : Option Int) (c : Int) : (o.map V.int).getD (.int c) = .int (o.getD c) := by cases o <;> rfl
def zah (z : Zs) (k : Int) : Int := k * z.common + (((zkeys z).filter fun j => decide (j < k)).map fun j => zsz z j - z.common).sum
def spZodd : Sp := fun vs H Q _ => ∃ (a o g : Addr) (z : Zs), vs = [.ref a] ∧ ZAt H a o g z ∧ ∀ (ys : List Int) (l : Addr) (H' : Hp), ys.Perm (zkeys z) → ys.Pairwise (· ≤ ·) → Same H H' → H' l = some (.lst (ys.map V.int)) → Q (.ref l) H'
def spZsize : Sp := fun vs H Q _ => ∃ (a o g : Addr) (z : Zs) (k : Int), vs = [.ref a, .int k] ∧ ZAt H a o g z ∧ Q (.int (zsz z k)) H
def spZahead : Sp := fun vs H Q _ => ∃ (a o g : Addr) (z : Zs) (k : Int), vs = [.ref a, .int k] ∧ ZAt H a o g z ∧ ∀ H', Same H H' → Q (.int (zah z k)) H'
/-- the two models say the same -/
structure Rel (s : Sz) (z : Zs) : Prop where
  many : s.many = z.many
  common : s.common = z.common
  st : ∀ k, stM s k = zst z k
  keys : (s.odd.map (·.1)).Perm (zkeys z)
theorem Rel.sz {s : Sz} {z : Zs} (r : Rel s z) (k : Int) : szM s k = zsz z k := by
  unfold szM zsz
  rw [r.st k]
  unfold zst
  by_cases h : k ∈ z.gone
  · simp [h]
  · simp [h]
theorem perm_sum {l l' : List Int} (p : l.Perm l') : l.sum = l'.sum := by
  induction p with
  | nil => rfl
  | cons x _ ih => simp [ih]
  | swap x y l => simp only [List.sum_cons]; omega
  | trans _ _ h1 h2 => rw [h1, h2]
theorem Rel.ah {s : Sz} {z : Zs} (r : Rel s z) (k : Int) : ahM s k = zah z k := by
  unfold ahM zah
  rw [r.common]
  congr 1
  have e : (fun j => szM s j - z.common) = fun j => zsz z j - z.common := by
    funext j
    rw [r.sz j]
  rw [e]
  exact perm_sum ((r.keys.filter _).map _)
theorem sorted_eq {l l' : List Int} (p : l.Perm l') (h : l.Pairwise (· ≤ ·)) (h' : l'.Pairwise (· ≤ ·)) : l = l' := by
  refine List.Perm.eq_of_pairwise (le := fun a b => a ≤ b) ?_ h h' p
  intro a b _ _ h1 h2
  omega
def spZst (K : PySem.W.Frag) (C : Addr) : Sp := fun vs H Q _ => ∃ (p d a o g l : Addr) (s : Sz) (z : Zs) (ns : List Int), vs = [.ref p, .ref a, .ref l] ∧ SzW C H p d s ∧ ZAt H a o g z ∧ Rel s z ∧ H l = some (.lst (ns.map V.int)) ∧ ns.length ≤ 1000 ∧ (∀ n ∈ ns, Sm n) ∧ ∀ H', Same H H' → Q (.bl true) H'
def spFar : Sp := fun vs H Q _ => ∃ a : Addr, vs = [.ref a] ∧ DrawAt H a ∧ ∀ (i : Int) (H' : Hp), Sm i → (i < -1000000 ∨ 1000000 < i) → Ext a H H' → Q (.int i) H'
def spZnew : Sp := fun vs H Q _ => ∃ n c : Int, vs = [.int n, .int c] ∧ (1 ≤ n ∧ n ≤ 1000000000) ∧ (1 ≤ c ∧ c ≤ 60) ∧ ∀ (a o g : Addr) (H' : Hp), Same H H' → ZAt H' a o g ⟨n, c, [], []⟩ → H a = none → H o = none → H g = none → Q (.ref a) H'
theorem Ext.pick {a : Addr} {H H1 : Hp} (d : DrawAt H1 a) (e : ∀ b, b ≠ a → H1 b = H b) : Ext a H H1 := ⟨d, fun b o n h => by rw [e b n]; exact h⟩
/-- a caught error asked for its class -/
def rIsX (K : PySem.W.Frag) (a : Addr) (cls : Value) (d : Option Addr) : List V → Hp → VK → Prop := fun xs H Q => ∃ (D : Addr) (c : V) (cv : Value) (b : Bool), cls = .ref D ∧ d = none ∧ ExcC K D ∧ xs = [.ref a, c] ∧ (∀ u, RelV c u → u = cv) ∧ PySem.W.kitOne K (.ref D) cv = some b ∧ Q (.bl b) H
theorem call_isX {X : Cx} {a : Addr} {oe : Obj} {cls : Value} {d : Option Addr} {pn : List (Addr × Obj)} (hz : Zc cls d oe) (hf : ∃ vs, oe.data = .fields vs) : CallR (X.suite a ((a, oe) :: pn)) (.builtin "isinstance") (rIsX X.K a cls d) := by
  intro pins s σ H xs us Q I r h
  obtain ⟨D, c, cv, b, rfl, rfl, e, h1, h2, h3, q⟩ := h
  exact call_isE e hz hf pins s σ H xs us Q I r ⟨c, cv, b, h1, h2, h3, q⟩
theorem glR {X : Cx} {x : Str} {C : Addr} {pos : Pos} (hg : Gl X x) (hm : X.mg x = some (.ref C)) (hd : (x == ("__debug__" : Str)) = false := by decide) : PE X (.Name x pos) (tC (.ref C)) := pe_glob hg hm rfl hd
theorem kit_own {K : PySem.W.Frag} {D C : Addr} {b : Bool} (hne : D ≠ C) (hc : PySem.W.isClsIn K C = true) (ht : PySem.W.typeIn K (.ref C) = some (.type "type")) (hs : PySem.W.subIn K (.ref D) (.ref C) = some b) : PySem.W.kitOne K (.ref D) (.ref C) = some b := by
  have h2 : (PySem.W.clsIn K C).isSome = true := hc
  have h1 : PySem.W.kitCls K (.ref D) (.ref C) = some b := by
    show (if ((PySem.W.clsIn K C).isSome && PySem.W.typeIn K (.ref C) == some (.type "type")) = true then PySem.W.subIn K (.ref D) (.ref C) else none) = some b
    rw [h2, ht, if_pos (by simp)]
    exact hs
  unfold PySem.W.kitOne
  rw [if_neg (by simpa using hne)]
  exact h1
theorem kit_same {K : PySem.W.Frag} {D : Addr} : PySem.W.kitOne K (.ref D) (.ref D) = some true := by
  unfold PySem.W.kitOne
  rw [if_pos (by simp)]
theorem kit_tyE {K : PySem.W.Frag} {D : Addr} {T : String} {b : Bool} (hm : PySem.W.kitMeta T = true) (hs : PySem.W.subIn K (.ref D) (.type T) = some b) : PySem.W.kitOne K (.ref D) (.type T) = some b := by
  unfold PySem.W.kitOne
  rw [if_neg (by simp)]
  show (if PySem.W.kitMeta T = true then PySem.W.subIn K (.ref D) (.type T) else none) = some b
  rw [if_pos hm]
  exact hs
theorem rel_ty {T : String} : ∀ u, RelV (.ty T) u → u = .type T := fun u h => h
theorem rel_ref {C : Addr} : ∀ u, RelV (.ref C) u → u = .ref C := fun u h => h
theorem call_reprD {X : Cx} {CX : CXT} {k : Nat} {C : Addr} {ps : List Str} {sp : Sp} {E : XK} (D : Mn X.prog X.w X.K X.mg X.base CX k C "__repr__" ps sp) (hr : Room (k + 1) X.A) (hx : Passes CX X E) : CallR X (.builtin "repr") (rRepr C sp E) := by
  obtain ⟨f, fd, F, hm, b⟩ := D
  exact call_repr F hm.at_ hm.fn b hr hx
def zexc (z : Zs) (k : Int) : Ex3 := (k, (zst z k).1, (zst z k).2)
theorem Rel.exc {s : Sz} {z : Zs} (r : Rel s z) (k : Int) : exc1 s k = zexc z k := by
  unfold exc1 zexc
  rw [r.st k]
def reprZ (n c : Int) : Str := ("Sizes " : Str) ++ (toString n : String) ++ (" " : Str) ++ (toString c : String)
theorem Rel.repr {s : Sz} {z : Zs} (r : Rel s z) : reprM s = reprZ z.many z.common := by
  unfold reprM reprZ
  rw [r.many, r.common, PySem.Str.empty_append]
theorem ex_mxl : ∀ es : List Ex3, mxlAll (es.map exD) ≤ 3
  | [] => by simp [mxlAll]
  | e :: r => by
    have := ex_mxl r
    simp only [List.map_cons, mxlAll, exD, mxl, List.length_cons, List.length_nil]
    omega
theorem ex_depth : ∀ es : List Ex3, PyData.depthAll (es.map exD) ≤ 1
  | [] => by simp [PyData.depthAll]
  | e :: r => by
    have := ex_depth r
    simp only [List.map_cons, PyData.depthAll, exD, PyData.depth]
    omega
end Gs
namespace Gs
open PySem L2
/-! ### an instance made with a keyword-only argument -/
def Cn (P : Program) (w : World) (K : PySem.W.Frag) (mg : Str → Option Value) (base : Heap) (CX : CXT) (k : Nat) (C : Addr) (x : Str) (sp : Sp) : Prop :=
  ∃ (f : Addr) (fd : FuncData), FnOk P w K mg base CX k f fd ["self", "many", "common"] sp ∧ Mk K C f ∧ mg x = some (.ref C) ∧ KBn K fd ["self", "many", "common"] 2 ["common"] (fun us ws => us ++ ws) (fun vs zs => vs ++ zs)
section
variable {X : Cx} {CX : CXT} {k : Nat} {C : Addr} {sp : Sp} {x : Str} {p pos : Pos} {e : Expr} {kws : List Keyword} {t tk : TA}
theorem pe_mkD {E : XK} (D : Cn X.prog X.w X.K X.mg X.base CX k C x sp) (hr : Room (k + 1) X.A) (hg : Gl X x) (hx : Passes CX X E) (ha : PA X [e] t) (hkw : PK X kws tk)
    (hall : (backToKw pos (keywordEach kws X.env)).all (·.1.isSome) = true := by rfl) (hks : (backToKw pos (keywordEach kws X.env)).filterMap (·.1) = ([("common" : Str)] : List Str) := by rfl) (hdb : (x == ("__debug__" : Str)) = false := by decide)
    (he : starEach [e] X.env = (false, eval e X.env) :: starEach [] X.env := by rfl) (hpl : ((backTo pos (starEach [e] X.env)).any (·.1) || (backToKw pos (keywordEach kws X.env)).any (·.1.isNone)) = false := by rfl) :
    PE X (.Call (.Name x p) [e] kws pos) (tMakeK C 1 1 sp (fun vs zs => vs ++ zs) E t tk) := by
  obtain ⟨f, fd, F, M, m, b⟩ := D
  exact pe_makeK M F hr hg m b hx ha hkw hall hks hdb he hpl
def tMakeAt (C : Addr) (sp : Sp) (E : St → XK) (t tk : TA) : TE := fun σ H Q => t σ H fun vs H1 => tk σ H1 fun zs H2 => vs.length = 1 ∧ zs.length = 1 ∧ ∀ x dx, H2 x = none → H2 dx = none → dx ≠ x →
  sp ((.ref x :: vs) ++ zs) (upd (upd H2 dx (.own x)) x (.ins C dx [])) (fun v H3 => v = .non ∧ Q (.ref x) H3) (E σ)
theorem pe_mkSD {E : St → XK} (D : Cn X.prog X.w X.K X.mg X.base CX k C x sp) (hr : Room (k + 1) X.A) (hg : Gl X x) (hx : ∀ σ, PassesAt CX X σ (E σ)) (ha : PA X [e] t) (hkw : PK X kws tk)
    (hall : (backToKw pos (keywordEach kws X.env)).all (·.1.isSome) = true := by rfl) (hks : (backToKw pos (keywordEach kws X.env)).filterMap (·.1) = ([("common" : Str)] : List Str) := by rfl) (hdb : (x == ("__debug__" : Str)) = false := by decide)
    (he : starEach [e] X.env = (false, eval e X.env) :: starEach [] X.env := by rfl) (hpl : ((backTo pos (starEach [e] X.env)).any (·.1) || (backToKw pos (keywordEach kws X.env)).any (·.1.isNone)) = false := by rfl) :
    PE X (.Call (.Name x p) [e] kws pos) (tMakeAt C sp E t tk) := by
  obtain ⟨f, fd, F, M, m, hb⟩ := D
  refine ⟨fun pins s σ H Q I h => wpAny_Call_Name_kw (ld_glob I hg m (PySem.W.callWith_KW (h₀ := X.base) I.ok.mod.kin M.kp hall (thn (ha.run pos pins s σ H _ I h) fun us s1 hh => ?_) hpl he) hdb)⟩
  obtain ⟨vs, H1, I1, r, q⟩ := hh
  refine thn (hkw.run pos pins s1 σ H1 _ I1 q) fun ws s2 hh => ?_
  obtain ⟨zs, H2, I2, rz, l1, l2, q2⟩ := hh
  refine ⟨I2.kIn, ?_⟩
  rw [hks]
  obtain ⟨y, ey⟩ : ∃ y, y = s2.heap.objs.size := ⟨_, rfl⟩
  have hq := q2 (y + 1) y (I2.hok.fresh (by omega)) (I2.hok.fresh (by omega)) (Nat.ne_of_lt (Nat.lt_succ_self y))
  subst ey
  have J := Inv.made (C := C) I2
  have n1 : (Value.ref (s2.heap.objs.size + 1) :: us).length = 2 := by rw [List.length_cons, ← r.length, l1]
  have n2 : ws.length = 1 := by rw [← rz.length, l2]
  have b2 := hb.to _ (Value.ref (s2.heap.objs.size + 1) :: us) ws J.kIn n1 n2
  have r2 : Vals ((V.ref (s2.heap.objs.size + 1) :: vs) ++ zs) ((Value.ref (s2.heap.objs.size + 1) :: us) ++ ws) := Vals.append (.cons rfl r) rz
  refine wpAny_call (make_map (f := f) I2.kIn M.makes M.init (beq_iff_eq.mp M.fn) (codeAny_mono (F.run _ X.stack _ _ ⟨_, ([("common" : Str)] : List Str).zip ws⟩ _ _ _ (E σ) (hr.make C us _) (J.env0.make C us _) b2 r2 hq) fun rr s' hq' => ?_))
  cases rr with
  | error e => exact hx σ pins _ _ e s' J hq'
  | ok fl =>
    cases fl with
    | ret u =>
      obtain ⟨v, H', I3, rv, ev, q3⟩ := J.after hq'
      subst ev
      exact ⟨rv, V.ref _, H', I3, rfl, q3⟩
    | next => exact False.elim hq'
    | brk => exact False.elim hq'
    | cont => exact False.elim hq'
end
end Gs
namespace Gs
open PySem L2
def Cn1 (P : Program) (w : World) (K : PySem.W.Frag) (mg : Str → Option Value) (base : Heap) (CX : CXT) (k : Nat) (C : Addr) (x : Str) (sp : Sp) : Prop :=
  ∃ (f : Addr) (fd : FuncData) (ds : List Value), FnOk P w K mg base CX k f fd ["self", "many", "common"] sp ∧ Mk K C f ∧ mg x = some (.ref C) ∧ Vals [.int 1] ds ∧ Binds K fd ["self", "many", "common"] ds
theorem pe_mk1D {X : Cx} {CX : CXT} {k : Nat} {C : Addr} {sp : Sp} {x : Str} {p pos : Pos} {e : Expr} {t : TA} {E : XK} (D : Cn1 X.prog X.w X.K X.mg X.base CX k C x sp) (hr : Room (k + 1) X.A) (hg : Gl X x) (hx : Passes CX X E) (ha : PA X [e] t) (hdb : (x == ("__debug__" : Str)) = false := by decide)
    (he : starEach [e] X.env = (false, eval e X.env) :: starEach [] X.env := by rfl) (hpl : (backTo pos (starEach [] X.env)).any (·.1) = false := by rfl) : PE X (.Call (.Name x p) [e] [] pos) (tMake C sp [.int 1] E t) := by
  obtain ⟨f, fd, ds, F, M, m, v, b⟩ := D
  exact pe_make M F hr hg m b v hx ha hdb he hpl
def EqR0 (C : Addr) (a b : Addr) (H : Hp) : Prop := ∃ d e n c, SzW C H a d ⟨n, c, []⟩ ∧ SzW C H b e ⟨n, c, []⟩
theorem op_eqOwn {X : Cx} {CX : CXT} {k : Nat} {C : Addr} {ps : List Str} {R : Addr → Addr → Hp → Prop} {E : XK} (D : Mn X.prog X.w X.K X.mg X.base CX k C "__eq__" ps (spEq R)) (hr : Room k X.A) (hx : Passes CX X E) : OpR X (compareOp .Eq) (rEqG (DIns C R)) := by
  obtain ⟨f, fd, F, hm, b⟩ := D
  exact op_eqG (rcG_ins F hm.at_ hm.fn b hx) hr
theorem new2 {H : Hp} {x dx : Addr} (hx : H x = none) (hd : H dx = none) (ne : dx ≠ x) (o u : HO) : Same H (upd (upd H dx o) x u) := fun b v q => by
  rw [upd_ne (ne_of_none q hx), upd_ne (ne_of_none q hd)]
  exact q
def goodS (n c : Int) : Prop := (1 ≤ n ∧ n ≤ 1000000) ∧ (1 ≤ c ∧ c ≤ 60)
def spMade (C : Addr) : Sp := fun vs H Q _ => ∃ n c : Int, vs = [.int n, .int c] ∧ Sm n ∧ Sm c ∧ (goodS n c → ∀ (p d : Addr) (H' : Hp), Same H H' → SzW C H' p d ⟨n, c, []⟩ → Q (.ref p) H') ∧
  (¬ goodS n c → ∀ (l : Addr) (H' : Hp), Same H H' → H' l = some (.lst [.bl (!decide (1 ≤ n ∧ n ≤ 1000000)), .bl (decide (1 ≤ n ∧ n ≤ 1000000)), .bl true]) → Q (.ref l) H')
def spRef (C : Addr) : Sp := fun vs H Q _ => ∃ (p d : Addr) (z : Sz) (i way : Int), vs = [.ref p, .int i, .int way] ∧ SzW C H p d z ∧ Sm i ∧ (0 ≤ way ∧ way < 4) ∧ (way = 3 → ¬ (0 ≤ i ∧ i ≤ z.many)) ∧ (way ≠ 3 → ¬ inR z i) ∧ ∀ H', Same H H' → Q (.bl true) H'
theorem merge_zL (n c : Int) (o g : Addr) : mergeK [] (zL n c o g) = zL n c o g := by
  simp [mergeK, zL, putK, nz1, nz2, nz3, nz4, nz5, nz6]
end Gs

set_option Elab.async false
set_option linter.all false
set_option maxRecDepth 100000
set_option maxHeartbeats 4000000
namespace Gs
open PySem L2
/-! ### what is kept of a thing -/
def dropO (odd : List OddE) (i : Int) : List OddE := odd.filter fun e => decide (e.1 ≠ i)
def putO (odd : List OddE) (i : Int) (x : Int × Bool) : List OddE := if (odd.any fun e => decide (e.1 = i)) = true then odd.map (fun e => if e.1 = i then (e.1, x) else e) else odd ++ [(i, x)]
theorem inl_eq {a b : Int} : ((Sum.inl a : Key) = Sum.inl b) ↔ a = b := ⟨fun h => by injection h, fun h => by rw [h]⟩
theorem OddAt.drop {H : Hp} (i : Int) : ∀ {kvs : List (Key × V)} {odd : List OddE}, OddAt H kvs odd → OddAt H (dropK kvs (Sum.inl i)) (dropO odd i)
  | _, _, .nil => .nil
  | (k, v) :: kvs, e :: odd, .cons ⟨h1, t, h2, h3⟩ r => by
    have ih := OddAt.drop i r
    simp only at h1
    subst h1
    unfold dropK dropO at *
    by_cases h : e.1 = i
    · rw [List.filter_cons_of_neg (by simp [h]), List.filter_cons_of_neg (by simp [h])]
      exact ih
    · rw [List.filter_cons_of_pos (by simp [h]), List.filter_cons_of_pos (by simp [h])]
      exact .cons ⟨rfl, t, h2, h3⟩ ih
theorem OddAt.any {H : Hp} (i : Int) : ∀ {kvs : List (Key × V)} {odd : List OddE}, OddAt H kvs odd → (kvs.any fun kv => decide (kv.1 = Sum.inl i)) = odd.any fun e => decide (e.1 = i)
  | _, _, .nil => rfl
  | (k, v) :: kvs, e :: odd, .cons ⟨h1, _⟩ r => by
    simp only at h1
    subst h1
    rw [List.any_cons, List.any_cons, OddAt.any i r]
    congr 1
    exact decide_eq_decide.mpr inl_eq
theorem OddAt.mapped {H : Hp} (i : Int) {t : Addr} {x : Int × Bool} (ht : H t = some (.tup [.int x.1, .bl x.2])) : ∀ {kvs : List (Key × V)} {odd : List OddE}, OddAt H kvs odd → OddAt H (kvs.map fun kv => if kv.1 = Sum.inl i then (kv.1, .ref t) else kv) (odd.map fun e => if e.1 = i then (e.1, x) else e)
  | _, _, .nil => .nil
  | (k, v) :: kvs, e :: odd, .cons ⟨h1, u, h2, h3⟩ r => by
    simp only at h1
    subst h1
    rw [List.map_cons, List.map_cons]
    by_cases h : e.1 = i
    · rw [if_pos h, if_pos (inl_eq.mpr h)]
      exact .cons ⟨rfl, t, rfl, ht⟩ (OddAt.mapped i ht r)
    · rw [if_neg h, if_neg (fun z => h (inl_eq.mp z))]
      exact .cons ⟨rfl, u, h2, h3⟩ (OddAt.mapped i ht r)
theorem OddAt.snoc {H : Hp} {t : Addr} {i : Int} {x : Int × Bool} (ht : H t = some (.tup [.int x.1, .bl x.2])) : ∀ {kvs : List (Key × V)} {odd : List OddE}, OddAt H kvs odd → OddAt H (kvs ++ [(Sum.inl i, .ref t)]) (odd ++ [(i, x)])
  | _, _, .nil => .cons ⟨rfl, t, rfl, ht⟩ .nil
  | _, _, .cons a r => .cons a (OddAt.snoc ht r)
theorem OddAt.put {H : Hp} {t : Addr} {i : Int} {x : Int × Bool} (ht : H t = some (.tup [.int x.1, .bl x.2])) {kvs : List (Key × V)} {odd : List OddE} (h : OddAt H kvs odd) : OddAt H (putK kvs (Sum.inl i) (.ref t)) (putO odd i x) := by
  unfold putK putO
  rw [h.any i]
  by_cases c : (odd.any fun e => decide (e.1 = i)) = true
  · rw [if_pos c, if_pos c]
    exact h.mapped i ht
  · rw [if_neg c, if_neg c]
    exact h.snoc ht
/-! ### what a look finds behind it -/
theorem look_cons (e : OddE) (r : List OddE) (k : Int) : look (e :: r) k = if e.1 = k then some e.2 else look r k := by
  by_cases h : e.1 = k
  · simp [look, h]
  · simp [look, h]
theorem look_append (a b : List OddE) (k : Int) : look (a ++ b) k = (look a k).or (look b k) := by
  induction a with
  | nil => simp [look]
  | cons e r ih =>
    rw [List.cons_append, look_cons, look_cons, ih]
    by_cases h : e.1 = k
    · simp [h]
    · simp [h]
theorem look_drop (odd : List OddE) (i k : Int) : look (dropO odd i) k = if k = i then none else look odd k := by
  induction odd with
  | nil => simp [dropO, look]
  | cons e r ih =>
    unfold dropO at *
    by_cases h : e.1 = i
    · rw [List.filter_cons_of_neg (by simp [h]), ih, look_cons]
      by_cases hk : k = i
      · simp [hk]
      · have : ¬ e.1 = k := fun z => hk (by omega)
        simp [hk, this]
    · rw [List.filter_cons_of_pos (by simp [h]), look_cons, look_cons, ih]
      by_cases hk : e.1 = k
      · have : ¬ k = i := fun z => h (by omega)
        simp [hk, this]
      · simp [hk]
theorem look_mapped (odd : List OddE) (i k : Int) (x : Int × Bool) : look (odd.map fun e => if e.1 = i then (e.1, x) else e) k = (look odd k).map fun y => if k = i then x else y := by
  induction odd with
  | nil => simp [look]
  | cons e r ih =>
    rw [List.map_cons, look_cons, look_cons, ih]
    by_cases h : e.1 = i
    · rw [if_pos h]
      by_cases hk : e.1 = k
      · have : k = i := by omega
        simp [hk, this]
      · simp [hk]
    · rw [if_neg h]
      by_cases hk : e.1 = k
      · have : ¬ k = i := by omega
        simp [hk, this]
      · simp [hk]
theorem look_any (odd : List OddE) (i : Int) : (odd.any fun e => decide (e.1 = i)) = (look odd i).isSome := by
  induction odd with
  | nil => rfl
  | cons e r ih =>
    rw [List.any_cons, look_cons, ih]
    by_cases h : e.1 = i
    · simp [h]
    · simp [h]
theorem look_put (odd : List OddE) (i k : Int) (x : Int × Bool) : look (putO odd i x) k = if k = i then some x else look odd k := by
  unfold putO
  rw [look_any]
  by_cases c : (look odd i).isSome = true
  · rw [if_pos c, look_mapped]
    by_cases h : k = i
    · subst h
      rw [if_pos rfl]
      obtain ⟨y, e⟩ := Option.isSome_iff_exists.mp c
      rw [e]
      simp
    · simp [h]
  · rw [if_neg c, look_append]
    have c' : look odd i = none := by simpa using c
    by_cases h : k = i
    · subst h
      rw [c']
      simp [look]
    · have : look [(i, x)] k = none := by simp [look]; omega
      rw [this]
      simp [h]
theorem look_mem {odd : List OddE} {i : Int} {x : Int × Bool} (h : look odd i = some x) : (i, x) ∈ odd := by
  induction odd with
  | nil => cases h
  | cons e r ih =>
    rw [look_cons] at h
    by_cases c : e.1 = i
    · rw [if_pos c] at h
      have := Option.some.inj h
      subst this
      rw [← c]
      exact List.mem_cons_self
    · rw [if_neg c] at h
      exact List.mem_cons_of_mem _ (ih h)
theorem look_key {odd : List OddE} {i : Int} : i ∈ odd.map (·.1) ↔ (look odd i).isSome = true := by
  rw [← look_any, List.any_eq_true]
  simp only [List.mem_map, decide_eq_true_eq]
theorem look_of {odd : List OddE} (nd : (odd.map (·.1)).Nodup) {e : OddE} (h : e ∈ odd) : look odd e.1 = some e.2 := by
  induction odd with
  | nil => cases h
  | cons f r ih =>
    rw [List.map_cons, List.nodup_cons] at nd
    rw [look_cons]
    rcases List.mem_cons.mp h with rfl | h
    · rw [if_pos rfl]
    · have : ¬ f.1 = e.1 := fun z => nd.1 (by rw [z]; exact List.mem_map_of_mem h)
      rw [if_neg this]
      exact ih nd.2 h
def keepM (z : Sz) (i own : Int) (hid : Bool) : Sz := ⟨z.many, z.common, if own = z.common ∧ hid = false then dropO z.odd i else putO z.odd i (own, hid)⟩
def fullM (z : Sz) (i own : Int) (hid : Bool) : Prop := ¬ (own = z.common ∧ hid = false) ∧ look z.odd i = none ∧ 60 ≤ z.odd.length
theorem keep_st {z : Sz} {i own : Int} {hid : Bool} (k : Int) : stM (keepM z i own hid) k = if k = i then (own, hid) else stM z k := by
  unfold stM keepM
  by_cases c : own = z.common ∧ hid = false
  · simp only [if_pos c]
    rw [look_drop]
    by_cases h : k = i
    · simp [h, c.1, c.2]
    · simp [h]
  · simp only [if_neg c]
    rw [look_put]
    by_cases h : k = i
    · simp [h]
    · simp [h]
theorem nodup_filter {α : Type} {p : α → Bool} {l : List α} (h : l.Nodup) : (l.filter p).Nodup := List.Pairwise.filter p h
theorem map_filter_key (odd : List OddE) (i : Int) : (dropO odd i).map (·.1) = (odd.map (·.1)).filter fun k => decide (k ≠ i) := by
  unfold dropO
  rw [List.filter_map]
  rfl
theorem map_mapped_key (odd : List OddE) (i : Int) (x : Int × Bool) : (odd.map fun e => if e.1 = i then (e.1, x) else e).map (·.1) = odd.map (·.1) := by
  rw [List.map_map]
  refine List.map_congr_left fun e _ => ?_
  show (if e.1 = i then (e.1, x) else e).1 = e.1
  by_cases h : e.1 = i
  · rw [if_pos h]
  · rw [if_neg h]
theorem putO_len (odd : List OddE) (i : Int) (x : Int × Bool) : (putO odd i x).length ≤ odd.length + 1 := by
  unfold putO
  split
  · rw [List.length_map]; omega
  · rw [List.length_append]; exact Nat.le_refl _
theorem keep_len (z : Sz) (i own : Int) (hid : Bool) : (keepM z i own hid).odd.length ≤ z.odd.length + 1 := by
  unfold keepM
  by_cases c : own = z.common ∧ hid = false
  · simp only [if_pos c]
    exact Nat.le_succ_of_le (List.length_filter_le _ _)
  · simp only [if_neg c]
    exact putO_len _ _ _
theorem keep_wf {z : Sz} {i own : Int} {hid : Bool} (W : Wf z) (hi : inR z i) (h0 : 1 ≤ own) (h1 : own ≤ 60) (nf : ¬ fullM z i own hid) : Wf (keepM z i own hid) := by
  obtain ⟨m0, m1, c0, c1, nd, le, ok⟩ := W
  by_cases c : own = z.common ∧ hid = false
  · have e : keepM z i own hid = ⟨z.many, z.common, dropO z.odd i⟩ := by unfold keepM; simp only [if_pos c]
    rw [e]
    refine ⟨m0, m1, c0, c1, ?_, ?_, ?_⟩
    · show ((dropO z.odd i).map (·.1)).Nodup
      rw [map_filter_key]
      exact nodup_filter nd
    · exact Nat.le_trans (List.length_filter_le _ _) le
    · intro e he
      exact ok e (List.mem_filter.mp he).1
  · have e : keepM z i own hid = ⟨z.many, z.common, putO z.odd i (own, hid)⟩ := by unfold keepM; simp only [if_neg c]
    rw [e]
    have good : own ≠ z.common ∨ hid = true := by
      by_cases q : own = z.common
      · right
        cases hid
        · exact absurd ⟨q, rfl⟩ c
        · rfl
      · exact .inl q
    by_cases a : (z.odd.any fun e => decide (e.1 = i)) = true
    · have e2 : putO z.odd i (own, hid) = z.odd.map fun e => if e.1 = i then (e.1, (own, hid)) else e := by unfold putO; rw [if_pos a]
      rw [e2]
      refine ⟨m0, m1, c0, c1, ?_, ?_, ?_⟩
      · show ((z.odd.map fun e => if e.1 = i then (e.1, (own, hid)) else e).map (·.1)).Nodup
        rw [map_mapped_key]
        exact nd
      · show (z.odd.map _).length ≤ 60
        rw [List.length_map]
        exact le
      · intro e he
        obtain ⟨e', he', rfl⟩ := List.mem_map.mp he
        have := ok e' he'
        by_cases q : e'.1 = i
        · rw [if_pos q]
          exact ⟨this.1, this.2.1, h0, h1, good⟩
        · rw [if_neg q]
          exact this
    · have e2 : putO z.odd i (own, hid) = z.odd ++ [(i, (own, hid))] := by unfold putO; rw [if_neg a]
      rw [e2]
      rw [look_any] at a
      have a' : look z.odd i = none := by simpa using a
      refine ⟨m0, m1, c0, c1, ?_, ?_, ?_⟩
      · show ((z.odd ++ [(i, (own, hid))]).map (·.1)).Nodup
        rw [List.map_append, List.nodup_append]
        refine ⟨nd, by simp, ?_⟩
        intro k hk b hb e
        simp at hb
        rw [e, hb, look_key, a'] at hk
        cases hk
      · show (z.odd ++ [(i, (own, hid))]).length ≤ 60
        rw [List.length_append]
        have : ¬ 60 ≤ z.odd.length := fun q => nf ⟨c, a', q⟩
        show z.odd.length + 1 ≤ 60
        omega
      · intro e he
        rcases List.mem_append.mp he with he | he
        · exact ok e he
        · simp at he
          rw [he]
          exact ⟨hi.1, hi.2, h0, h1, good⟩
/-- all but the thing at d is as it was -/
def Frm (d : Addr) (H H' : Hp) : Prop := ∀ b o, b ≠ d → H b = some o → H' b = some o
theorem Frm.of {d : Addr} {H H' : Hp} (s : Same H H') : Frm d H H' := fun b o _ h => s b o h
theorem Frm.trans {d : Addr} {H H1 H2 : Hp} (a : Frm d H H1) (b : Frm d H1 H2) : Frm d H H2 := fun c o n h => b c o n (a c o n h)
theorem Frm.upd {d : Addr} {H : Hp} (o : HO) : Frm d H (L2.upd H d o) := fun b v n h => by rw [upd_ne n]; exact h
theorem upd_self {H : Hp} {a : Addr} {o : HO} (h : H a = some o) : upd H a o = H := by
  funext b
  by_cases e : b = a
  · subst e
    rw [upd_same, h]
  · rw [upd_ne e]
theorem dropK_none {kvs : List (Key × V)} {k : Key} (h : valV kvs k = none) : dropK kvs k = kvs := by
  unfold dropK
  rw [List.filter_eq_self]
  intro kv hk
  have h2 : (kvs.any fun kv => decide (kv.1 = k)) = false := by rw [valV_any, h]; rfl
  rw [List.any_eq_false] at h2
  have := h2 kv hk
  simpa using this
theorem sameU {H H' : Hp} (s : Same H H') {x : Addr} (h : H x = none) (o : HO) : Same H (upd H' x o) := fun b v q => by rw [upd_ne (ne_of_none q h)]; exact s b v q
/-- d.pop(k, x): in both cases what is left -/
theorem pop_both {H : Hp} {a : Addr} {kvs : List (Key × V)} {k : Key} {z : V} {Q : V → Hp → Prop} (h : H a = some (.dK kvs)) (q : ∀ v, Q v (upd H a (.dK (dropK kvs k)))) : (∀ v, valV kvs k = some v → Q v (upd H a (.dK (dropK kvs k)))) ∧ (valV kvs k = none → Q z H) := by
  refine ⟨fun v _ => q v, fun e => ?_⟩
  have := q z
  rw [dropK_none e, upd_self h] at this
  exact this
def spKeep (C cF : Addr) : Sp := fun vs H Q E => ∃ (p d : Addr) (z : Sz) (i own : Int) (hid : Bool), vs = [.ref p, .int i, .int own, .bl hid] ∧ SzW C H p d z ∧ inR z i ∧ 1 ≤ own ∧ own ≤ 60 ∧
  (¬ fullM z i own hid → ∀ H', Frm d H H' → SzW C H' p d (keepM z i own hid) → Q .non H') ∧ (fullM z i own hid → E (.ref cF) none H)
def spGive (C cN cS cF : Addr) : Sp := fun vs H Q E => ∃ (p d : Addr) (z : Sz) (i size : Int), vs = [.ref p, .int i, .int size] ∧ SzW C H p d z ∧ Sm i ∧ Sm size ∧
  (inR z i → 1 ≤ size → size ≤ 60 → ¬ fullM z i size (stM z i).2 → ∀ H', Frm d H H' → SzW C H' p d (keepM z i size (stM z i).2) → Q .non H') ∧ (¬ inR z i → E (.ref cN) none H) ∧
  (inR z i → ¬ (1 ≤ size ∧ size ≤ 60) → ∀ H', Same H H' → E (.ref cS) none H') ∧ (inR z i → 1 ≤ size → size ≤ 60 → fullM z i size (stM z i).2 → ∀ H', Same H H' → E (.ref cF) none H')
/-- hide, show, plain -/
def spTo (C cN cF : Addr) (g : Sz → Int → Int × Bool) : Sp := fun vs H Q E => ∃ (p d : Addr) (z : Sz) (i : Int), vs = [.ref p, .int i] ∧ SzW C H p d z ∧ Sm i ∧
  (inR z i → ¬ fullM z i (g z i).1 (g z i).2 → ∀ H', Frm d H H' → SzW C H' p d (keepM z i (g z i).1 (g z i).2) → Q .non H') ∧ (¬ inR z i → E (.ref cN) none H) ∧
  (inR z i → fullM z i (g z i).1 (g z i).2 → ∀ H', Same H H' → E (.ref cF) none H')
abbrev gHide : Sz → Int → Int × Bool := fun z i => ((stM z i).1, true)
abbrev gShow : Sz → Int → Int × Bool := fun z i => ((stM z i).1, false)
abbrev gPlain : Sz → Int → Int × Bool := fun z i => (z.common, (stM z i).2)
theorem st_range {z : Sz} (W : Wf z) (i : Int) : 1 ≤ (stM z i).1 ∧ (stM z i).1 ≤ 60 := by
  have e : stM z i = (look z.odd i).getD (z.common, false) := rfl
  cases h : look z.odd i with
  | none => rw [e, h]; exact ⟨W.c0, W.c1⟩
  | some x => rw [e, h]; exact ⟨(W.ok _ (look_mem h)).2.2.1, (W.ok _ (look_mem h)).2.2.2.1⟩
theorem SzW.frm {C : Addr} {H H' : Hp} {p d e : Addr} {z : Sz} (S : SzW C H p d z) (n1 : p ≠ e) (n2 : d ≠ e) (he : ∀ t xs, H t = some (.tup xs) → t ≠ e) (f : Frm e H H') : SzW C H' p d z := by
  obtain ⟨dx, kvs, h1, h2, h3, W⟩ := S
  exact ⟨dx, kvs, f _ _ n1 h1, f _ _ n2 h2, h3.mono fun t xs q => f _ _ (he t xs q) q, W⟩
/-! ### the law's own dict, changed -/
structure Zw (z : Zs) : Prop where
  nd : (z.own.map (·.1)).Nodup
  ne : ∀ e ∈ z.own, e.2 ≠ z.common
  ng : z.gone.Nodup
def zwithM (z : Zs) (k size : Int) (hid : Bool) : Zs := ⟨z.many, z.common, (z.own.filter fun e => decide (e.1 ≠ k)) ++ (if size ≠ z.common then [(k, size)] else []), (z.gone.filter fun j => decide (j ≠ k)) ++ (if hid = true then [k] else [])⟩
theorem zown_cons (e : Int × Int) (r : List (Int × Int)) (k : Int) : zown (e :: r) k = if e.1 = k then some e.2 else zown r k := by
  by_cases h : e.1 = k
  · simp [zown, h]
  · simp [zown, h]
theorem zown_append (a b : List (Int × Int)) (k : Int) : zown (a ++ b) k = (zown a k).or (zown b k) := by
  induction a with
  | nil => simp [zown]
  | cons e r ih =>
    rw [List.cons_append, zown_cons, zown_cons, ih]
    by_cases h : e.1 = k
    · simp [h]
    · simp [h]
theorem zown_drop (own : List (Int × Int)) (i k : Int) : zown (own.filter fun e => decide (e.1 ≠ i)) k = if k = i then none else zown own k := by
  induction own with
  | nil => simp [zown]
  | cons e r ih =>
    by_cases h : e.1 = i
    · rw [List.filter_cons_of_neg (by simp [h]), ih, zown_cons]
      by_cases hk : k = i
      · simp [hk]
      · have : ¬ e.1 = k := fun z => hk (by omega)
        simp [hk, this]
    · rw [List.filter_cons_of_pos (by simp [h]), zown_cons, zown_cons, ih]
      by_cases hk : e.1 = k
      · have : ¬ k = i := fun z => h (by omega)
        simp [hk, this]
      · simp [hk]
theorem zown_key {own : List (Int × Int)} {i : Int} : i ∈ own.map (·.1) ↔ (zown own i).isSome = true := by
  induction own with
  | nil => simp [zown]
  | cons e r ih =>
    rw [List.map_cons, List.mem_cons, zown_cons, ih]
    by_cases h : e.1 = i
    · simp [h]
    · have : ¬ i = e.1 := fun z => h z.symm
      simp [h, this]
theorem zown_mem {own : List (Int × Int)} {i x : Int} (h : zown own i = some x) : (i, x) ∈ own := by
  induction own with
  | nil => cases h
  | cons e r ih =>
    rw [zown_cons] at h
    by_cases c : e.1 = i
    · rw [if_pos c] at h
      have := Option.some.inj h
      subst this
      rw [← c]
      exact List.mem_cons_self
    · rw [if_neg c] at h
      exact List.mem_cons_of_mem _ (ih h)
theorem zwith_st1 (z : Zs) (k size : Int) (hid : Bool) (j : Int) : (zown (zwithM z k size hid).own j).getD z.common = if j = k then size else (zown z.own j).getD z.common := by
  show (zown ((z.own.filter fun e => decide (e.1 ≠ k)) ++ (if size ≠ z.common then [(k, size)] else [])) j).getD z.common = _
  rw [zown_append, zown_drop]
  by_cases h : j = k
  · subst h
    by_cases c : size = z.common
    · simp [c, zown]
    · simp [c, zown]
  · have h1 : zown (if size ≠ z.common then [(k, size)] else []) j = none := by
      by_cases c : size = z.common
      · simp [c, zown]
      · simp [c, zown]; omega
    rw [h1, Option.or_none, if_neg h, if_neg h]
theorem zwith_st2 (z : Zs) (k size : Int) (hid : Bool) (j : Int) : j ∈ (zwithM z k size hid).gone ↔ if j = k then hid = true else j ∈ z.gone := by
  show j ∈ ((z.gone.filter fun i => decide (i ≠ k)) ++ (if hid = true then [k] else [])) ↔ _
  rw [List.mem_append, List.mem_filter]
  by_cases h : j = k
  · subst h
    cases hid <;> simp
  · cases hid <;> simp [h]
theorem zwith_st (z : Zs) (k size : Int) (hid : Bool) (j : Int) : zst (zwithM z k size hid) j = if j = k then (size, hid) else zst z j := by
  have h1 : (zst (zwithM z k size hid) j).1 = if j = k then size else (zown z.own j).getD z.common := zwith_st1 z k size hid j
  have h2 : (zst (zwithM z k size hid) j).2 = decide (if j = k then hid = true else j ∈ z.gone) := decide_eq_decide.mpr (zwith_st2 z k size hid j)
  refine Prod.ext ?_ ?_
  · rw [h1]
    by_cases h : j = k
    · simp [h]
    · simp [h, zst]
  · rw [h2]
    by_cases h : j = k
    · simp [h]
    · simp [h, zst]
theorem zwith_w {z : Zs} (w : Zw z) (k size : Int) (hid : Bool) : Zw (zwithM z k size hid) := by
  refine ⟨?_, ?_, ?_⟩
  · show (((z.own.filter fun e => decide (e.1 ≠ k)) ++ (if size ≠ z.common then [(k, size)] else [])).map (·.1)).Nodup
    rw [List.map_append, List.nodup_append]
    refine ⟨?_, ?_, ?_⟩
    · have e : (z.own.filter fun e => decide (e.1 ≠ k)).map (·.1) = (z.own.map (·.1)).filter fun j => decide (j ≠ k) := by
        rw [List.filter_map]
        rfl
      rw [e]
      exact nodup_filter w.nd
    · split <;> simp
    · intro a ha b hb e
      obtain ⟨x, hx, rfl⟩ := List.mem_map.mp ha
      have h1 := (List.mem_filter.mp hx).2
      have h1' : x.1 ≠ k := of_decide_eq_true h1
      split at hb
      · simp at hb
        exact h1' (by rw [e, hb])
      · simp at hb
  · intro e he
    rcases List.mem_append.mp he with he | he
    · exact w.ne e (List.mem_filter.mp he).1
    · split at he
      · simp at he
        rw [he]
        assumption
      · simp at he
  · show ((z.gone.filter fun j => decide (j ≠ k)) ++ (if hid = true then [k] else [])).Nodup
    rw [List.nodup_append]
    refine ⟨nodup_filter w.ng, ?_, ?_⟩
    · split <;> simp
    · intro a ha b hb e
      have h1 : a ≠ k := of_decide_eq_true (List.mem_filter.mp ha).2
      split at hb
      · simp at hb
        exact h1 (by rw [e, hb])
      · simp at hb
theorem zkeys_nd {z : Zs} (w : Zw z) : (zkeys z).Nodup := by
  unfold zkeys
  rw [List.nodup_append]
  refine ⟨w.nd, nodup_filter w.ng, ?_⟩
  intro a ha b hb e
  have h1 := (List.mem_filter.mp hb).2
  rw [← e, zown_key.mp ha] at h1
  cases h1
theorem zkeys_mem {z : Zs} (w : Zw z) (k : Int) : k ∈ zkeys z ↔ zst z k ≠ (z.common, false) := by
  unfold zkeys
  rw [List.mem_append, List.mem_filter, zown_key]
  unfold zst
  cases h : zown z.own k with
  | none =>
    by_cases g : k ∈ z.gone
    · simp [g]
    · simp [g]
  | some x =>
    have := w.ne _ (zown_mem h)
    simp
    intro e
    exact absurd e this
theorem keys_mem {s : Sz} (W : Wf s) (k : Int) : k ∈ s.odd.map (·.1) ↔ stM s k ≠ (s.common, false) := by
  rw [look_key]
  unfold stM
  cases h : look s.odd k with
  | none => simp
  | some x =>
    have := (W.ok _ (look_mem h)).2.2.2.2
    simp
    intro e
    rw [e] at this
    rcases this with q | q
    · exact q rfl
    · cases q
theorem rel_mk {s : Sz} {z : Zs} (W : Wf s) (w : Zw z) (h1 : s.many = z.many) (h2 : s.common = z.common) (h3 : ∀ k, stM s k = zst z k) : Rel s z := by
  refine ⟨h1, h2, h3, (List.perm_ext_iff_of_nodup W.nd (zkeys_nd w)).mpr fun k => ?_⟩
  rw [keys_mem W, zkeys_mem w, h3 k, h2]
theorem zok_of {s : Sz} {z : Zs} (W : Wf s) (w : Zw z) (R : Rel s z) : Zok z := by
  have l := R.keys.length_eq
  rw [List.length_map] at l
  have le := W.le
  have lk : (zkeys z).length = z.own.length + (z.gone.filter fun k => !(zown z.own k).isSome).length := by
    unfold zkeys
    rw [List.length_append, List.length_map]
  have sub : ∀ k ∈ z.gone, k ∈ zkeys z := fun k hk => by
    rw [zkeys_mem w]
    unfold zst
    simp [hk]
  have lg : z.gone.length ≤ (zkeys z).length := by
    have p : z.gone.Perm ((zkeys z).filter fun k => decide (k ∈ z.gone)) := by
      refine (List.perm_ext_iff_of_nodup w.ng (nodup_filter (zkeys_nd w))).mpr fun k => ?_
      rw [List.mem_filter]
      exact ⟨fun h => ⟨sub k h, decide_eq_true h⟩, fun h => of_decide_eq_true h.2⟩
    rw [p.length_eq]
    exact List.length_filter_le _ _
  refine ⟨by rw [← R.many]; exact W.m0, by rw [← R.many]; exact W.m1, by rw [← R.common]; exact W.c0, by rw [← R.common]; exact W.c1, by omega, by omega, by omega, fun k hk => ?_⟩
  obtain ⟨e, he, ek⟩ := List.mem_map.mp (R.keys.mem_iff.mpr hk)
  have := W.ok e he
  rw [← R.many, ← ek]
  exact ⟨this.1, this.2.1⟩
/-- the dict and its two, with no word of what is in them -/
structure ZH (H : Hp) (a o g : Addr) (z : Zs) : Prop where
  ha : H a = some (.dK (zL z.many z.common o g))
  ho : H o = some (.dK (ownK z.own))
  hg : H g = some (.dK (goneK z.gone))
  ao : a ≠ o
  ag : a ≠ g
  og : o ≠ g
def spZwith : Sp := fun vs H Q _ => ∃ (a o g : Addr) (z : Zs) (k size : Int) (hid : Bool), vs = [.ref a, .int k, .int size, .bl hid] ∧ ZAt H a o g z ∧
  ∀ (a' o' g' : Addr) (H' : Hp), Same H H' → ZH H' a' o' g' (zwithM z k size hid) → H a' = none → H o' = none → H g' = none → Q (.ref a') H'
def spZset : Sp := fun vs H Q _ => ∃ (a o g : Addr) (z : Zs) (k size : Int), vs = [.ref a, .int k, .int size] ∧ ZAt H a o g z ∧
  ∀ (a' o' g' : Addr) (H' : Hp), Same H H' → ZH H' a' o' g' (zwithM z k size (zst z k).2) → H a' = none → H o' = none → H g' = none → Q (.ref a') H'
def spZhide : Sp := fun vs H Q _ => ∃ (a o g : Addr) (z : Zs) (k : Int) (hid : Bool), vs = [.ref a, .int k, .bl hid] ∧ ZAt H a o g z ∧
  ∀ (a' o' g' : Addr) (H' : Hp), Same H H' → ZH H' a' o' g' (zwithM z k (zst z k).1 hid) → H a' = none → H o' = none → H g' = none → Q (.ref a') H'
theorem putK_drop (kvs : List (Key × V)) (k : Key) (v : V) : putK (dropK kvs k) k v = dropK kvs k ++ [(k, v)] := by
  unfold putK
  rw [if_neg]
  intro c
  rw [List.any_eq_true] at c
  obtain ⟨x, hx, e⟩ := c
  have := (List.mem_filter.mp hx).2
  have e' : x.1 = k := of_decide_eq_true e
  exact (of_decide_eq_true this) e'
theorem drop_ownK (own : List (Int × Int)) (k : Int) : dropK (ownK own) (Sum.inl k) = ownK (own.filter fun e => decide (e.1 ≠ k)) := by
  unfold dropK ownK
  rw [List.filter_map]
  congr 1
  refine List.filter_congr fun e _ => ?_
  show decide (Sum.inl e.1 ≠ (Sum.inl k : Key)) = decide (e.1 ≠ k)
  exact decide_eq_decide.mpr (not_congr inl_eq)
theorem drop_goneK (gone : List Int) (k : Int) : dropK (goneK gone) (Sum.inl k) = goneK (gone.filter fun j => decide (j ≠ k)) := by
  unfold dropK goneK
  rw [List.filter_map]
  congr 1
  refine List.filter_congr fun e _ => ?_
  show decide (Sum.inl e ≠ (Sum.inl k : Key)) = decide (e ≠ k)
  exact decide_eq_decide.mpr (not_congr inl_eq)
theorem put_zL_own (n c : Int) (o g o' : Addr) : putK (zL n c o g) (Sum.inr "own") (.ref o') = zL n c o' g := by
  simp [putK, zL, nz1, nz2, nz3, nz4, nz5, nz6, Ne.symm nz6]
theorem put_zL_gone (n c : Int) (o g g' : Addr) : putK (zL n c o g) (Sum.inr "gone") (.ref g') = zL n c o g' := by
  simp [putK, zL, nz1, nz2, nz3, nz4, nz5, nz6]
/-! ### both side by side -/
def Nls (H H' : Hp) : Prop := ∀ b o, (∀ xs, o ≠ .lst xs) → H b = some o → H' b = some o
theorem Nls.of {H H' : Hp} (s : Same H H') : Nls H H' := fun b o _ h => s b o h
theorem Nls.trans {H H1 H2 : Hp} (x : Nls H H1) (y : Nls H1 H2) : Nls H H2 := fun b o n h => y b o n (x b o n h)
theorem Nls.ext {a : Addr} {H H' : Hp} (d : DrawAt H a) (e : Ext a H H') : Nls H H' := fun b o n h => e.2 b o (by
  obtain ⟨l, ns, i, left, seed, m, h1, _⟩ := d
  exact ne_of h h1 (n _)) h
structure Both (C : Addr) (H : Hp) (p d a o g : Addr) (s : Sz) (z : Zs) : Prop where
  S : SzW C H p d s
  Z : ZAt H a o g z
  R : Rel s z
  w : Zw z
  da : d ≠ a
  dO : d ≠ o
  dg : d ≠ g
theorem SzW.wf {C : Addr} {H : Hp} {p d : Addr} {z : Sz} (S : SzW C H p d z) : Wf z := by
  obtain ⟨_, _, _, _, _, W⟩ := S
  exact W
theorem SzW.nls {C : Addr} {H H' : Hp} {p d : Addr} {z : Sz} (S : SzW C H p d z) (e : Nls H H') : SzW C H' p d z := by
  obtain ⟨dx, kvs, h1, h2, h3, W⟩ := S
  exact ⟨dx, kvs, e _ _ (fun _ q => by cases q) h1, e _ _ (fun _ q => by cases q) h2, h3.mono fun t xs q => e _ _ (fun _ q => by cases q) q, W⟩
theorem ZAt.nls {H H' : Hp} {a o g : Addr} {z : Zs} (h : ZAt H a o g z) (e : Nls H H') : ZAt H' a o g z := ⟨e _ _ (fun _ q => by cases q) h.ha, e _ _ (fun _ q => by cases q) h.ho, e _ _ (fun _ q => by cases q) h.hg, h.ao, h.ag, h.og, h.ok⟩
theorem Both.nls {C : Addr} {H H' : Hp} {p d a o g : Addr} {s : Sz} {z : Zs} (B : Both C H p d a o g s z) (e : Nls H H') : Both C H' p d a o g s z := ⟨B.S.nls e, B.Z.nls e, B.R, B.w, B.da, B.dO, B.dg⟩
theorem ZAt.frm {H H' : Hp} {a o g d : Addr} {z : Zs} (h : ZAt H a o g z) (h1 : d ≠ a) (h2 : d ≠ o) (h3 : d ≠ g) (f : Frm d H H') : ZAt H' a o g z := ⟨f _ _ h1.symm h.ha, f _ _ h2.symm h.ho, f _ _ h3.symm h.hg, h.ao, h.ag, h.og, h.ok⟩
/-- a deed in both -/
theorem Both.step {C : Addr} {H' H'' : Hp} {p d a' o' g' : Addr} {s : Sz} {z : Zs} {i own : Int} {hid : Bool} (w : Zw z) (R : Rel s z) (S' : SzW C H' p d (keepM s i own hid)) (e : Same H' H'') (Z' : ZH H'' a' o' g' (zwithM z i own hid)) (na : H' a' = none) (no : H' o' = none) (ng : H' g' = none) :
    Both C H'' p d a' o' g' (keepM s i own hid) (zwithM z i own hid) := by
  have w' := zwith_w w i own hid
  have W' := S'.wf
  have R' : Rel (keepM s i own hid) (zwithM z i own hid) := rel_mk W' w' R.many R.common fun k => by rw [keep_st, zwith_st, R.st k]
  have hd : ∃ u, H' d = some u := by
    obtain ⟨_, kvs, _, h2, _⟩ := S'
    exact ⟨_, h2⟩
  obtain ⟨u, hd⟩ := hd
  exact ⟨S'.same e, ⟨Z'.ha, Z'.ho, Z'.hg, Z'.ao, Z'.ag, Z'.og, zok_of W' w' R'⟩, R', w', ne_of_none hd na, ne_of_none hd no, ne_of_none hd ng⟩
theorem DrawAt.frm {H H' : Hp} {a d : Addr} {kvs : List (Key × V)} (D : DrawAt H a) (hd : H d = some (.dK kvs)) (f : Frm d H H') : DrawAt H' a := by
  obtain ⟨l, ns, i, left, seed, n, h1, h2, r⟩ := D
  exact ⟨l, ns, i, left, seed, n, f _ _ (ne_of h1 hd (by intro e; unfold drawO at e; cases e)) h1, f _ _ (ne_of h2 hd (by intro e; cases e)) h2, r⟩
end Gs

set_option Elab.async false
set_option linter.all false
set_option maxRecDepth 100000
set_option maxHeartbeats 4000000
namespace Gs
open PySem L2
/-! ### sums ahead of a thing -/
theorem sz_plain {z : Sz} {i : Int} (h : ¬ i ∈ z.odd.map (·.1)) : szM z i = z.common := by
  rw [look_key] at h
  have e : look z.odd i = none := by simpa using h
  unfold szM stM
  rw [e]
  rfl
theorem sum_step (f : Int → Int) (i : Int) : ∀ l : List Int, l.Nodup → ((l.filter fun k => decide (k < i + 1)).map f).sum = ((l.filter fun k => decide (k < i)).map f).sum + if i ∈ l then f i else 0
  | [], _ => by simp
  | k :: r, nd => by
    rw [List.nodup_cons] at nd
    have ih := sum_step f i r nd.2
    by_cases h1 : k < i
    · have h2 : k < i + 1 := by omega
      have h3 : ¬ i = k := by omega
      rw [List.filter_cons_of_pos (by simpa using h2), List.filter_cons_of_pos (by simpa using h1), List.map_cons, List.map_cons, List.sum_cons, List.sum_cons, ih]
      simp only [List.mem_cons, h3, false_or]
      omega
    · by_cases h3 : k = i
      · subst h3
        have h2 : k < k + 1 := by omega
        rw [List.filter_cons_of_pos (by simpa using h2), List.filter_cons_of_neg (by simp), List.map_cons, List.sum_cons, ih]
        simp only [nd.1, if_false, List.mem_cons, true_or, if_true]
        omega
      · have h2 : ¬ k < i + 1 := by omega
        have h4 : ¬ i = k := fun z => h3 z.symm
        rw [List.filter_cons_of_neg (by simpa using h2), List.filter_cons_of_neg (by simpa using h1), ih]
        simp only [List.mem_cons, h4, false_or]
theorem ah_succ {z : Sz} (W : Wf z) (i : Int) : ahM z (i + 1) = ahM z i + szM z i := by
  unfold ahM
  rw [sum_step _ i _ W.nd]
  by_cases h : i ∈ z.odd.map (·.1)
  · rw [if_pos h, Int.add_mul]
    omega
  · rw [if_neg h, sz_plain h, Int.add_mul]
    omega
theorem ah_gap {z : Sz} {a b : Int} (h : ∀ k ∈ z.odd.map (·.1), k < a ∨ b ≤ k) (hab : a ≤ b) : ahM z b = ahM z a + (b - a) * z.common := by
  unfold ahM
  have e : ((z.odd.map (·.1)).filter fun k => decide (k < b)) = (z.odd.map (·.1)).filter fun k => decide (k < a) := by
    refine List.filter_congr fun k hk => ?_
    refine decide_eq_decide.mpr ?_
    have := h k hk
    omega
  rw [e, Int.sub_mul]
  omega
theorem ah_zero {z : Sz} (W : Wf z) : ahM z 0 = 0 := by
  unfold ahM
  have e : ((z.odd.map (·.1)).filter fun k => decide (k < 0)) = [] := by
    rw [List.filter_eq_nil_iff]
    intro k hk
    obtain ⟨e, he, ek⟩ := List.mem_map.mp hk
    have := (W.ok e he).1
    simp
    omega
  rw [e]
  simp
theorem sz_range {z : Sz} (W : Wf z) (i : Int) : 0 ≤ szM z i ∧ szM z i ≤ 60 := by
  have := st_range W i
  unfold szM
  split
  · omega
  · omega
theorem ah_nat {z : Sz} (W : Wf z) : ∀ n : Nat, 0 ≤ ahM z (n : Int) ∧ ahM z (n : Int) ≤ 60 * n
  | 0 => by
    have := ah_zero W
    show 0 ≤ ahM z 0 ∧ ahM z 0 ≤ _
    rw [this]
    omega
  | n + 1 => by
    have ih := ah_nat W n
    have s := ah_succ W (n : Int)
    have r := sz_range W (n : Int)
    have e : ((n + 1 : Nat) : Int) = (n : Int) + 1 := by omega
    rw [e, s]
    omega
theorem ah_range {z : Sz} (W : Wf z) {i : Int} (h : 0 ≤ i) : 0 ≤ ahM z i ∧ ahM z i ≤ 60 * i := by
  have := ah_nat W i.toNat
  have e : ((i.toNat : Nat) : Int) = i := by omega
  rw [e] at this
  exact this
theorem ah_mono_nat {z : Sz} (W : Wf z) (a : Int) : ∀ n : Nat, ahM z a ≤ ahM z (a + n)
  | 0 => by
    have e : a + ((0 : Nat) : Int) = a := by omega
    rw [e]
    exact Int.le_refl _
  | n + 1 => by
    have ih := ah_mono_nat W a n
    have s := ah_succ W (a + n)
    have r := sz_range W (a + n)
    have e : a + ((n + 1 : Nat) : Int) = a + n + 1 := by omega
    rw [e, s]
    omega
theorem ah_mono {z : Sz} (W : Wf z) {a b : Int} (h : a ≤ b) : ahM z a ≤ ahM z b := by
  have := ah_mono_nat W a (b - a).toNat
  have e : a + ((b - a).toNat : Int) = b := by omega
  rw [e] at this
  exact this
/-- only one thing lies over a point -/
theorem at_one {z : Sz} (W : Wf z) {i j pt : Int} (h1 : ahM z i ≤ pt) (h2 : pt < ahM z i + szM z i) (h3 : ahM z j ≤ pt) (h4 : pt < ahM z j + szM z j) : i = j := by
  have s1 := ah_succ W i
  have s2 := ah_succ W j
  rcases Int.lt_trichotomy i j with h | h | h
  · have := ah_mono W (show i + 1 ≤ j by omega)
    omega
  · exact h
  · have := ah_mono W (show j + 1 ≤ i by omega)
    omega
def spAt (C cP : Addr) : Sp := fun vs H Q E => ∃ (p d : Addr) (z : Sz) (pt : Int), vs = [.ref p, .int pt] ∧ SzW C H p d z ∧ Sm pt ∧
  (0 ≤ pt → pt < ahM z z.many → ∀ (k : Int) (t : Addr) (H' : Hp), inR z k → ahM z k ≤ pt → pt < ahM z k + szM z k → Same H H' → H' t = some (.tup [.int k, .int (pt - ahM z k)]) → Q (.ref t) H') ∧
  (¬ (0 ≤ pt ∧ pt < ahM z z.many) → ∀ H', Same H H' → E (.ref cP) none H')
theorem lt_of_pw {ys : List Int} (pw : ys.Pairwise (· ≤ ·)) (nd : ys.Nodup) : ys.Pairwise (· < ·) := by
  refine List.Pairwise.imp₂ (fun a b h1 h2 => ?_) pw nd
  omega
theorem drop_at {ys : List Int} {j : Nat} {x : Int} (h : ys[j]? = some x) : ys.drop j = x :: ys.drop (j + 1) := by
  have hj : j < ys.length := by
    rw [List.getElem?_eq_some_iff] at h
    exact h.1
  rw [List.drop_eq_getElem_cons hj]
  rw [List.getElem?_eq_getElem hj] at h
  rw [Option.some.inj h]
end Gs

set_option Elab.async false
set_option linter.all false
set_option maxRecDepth 100000
set_option maxHeartbeats 4000000
namespace Gs
open PySem L2
/-! ### rows of pairs -/
abbrev Pr := Int × Int
def prD (e : Pr) : PyData := .tuple [.int e.1, .int e.2]
def DpP (H : Hp) (xs : List V) (es : List Pr) : Prop := Paired (fun (v : V) (e : Pr) => ∃ t, v = .ref t ∧ H t = some (.tup [.int e.1, .int e.2])) xs es
theorem DpP.mono {H H' : Hp} (s : TupSame H H') : ∀ {xs : List V} {cs : List Pr}, DpP H xs cs → DpP H' xs cs
  | _, _, .nil => .nil
  | _, _, .cons ⟨t, e, h⟩ r => .cons ⟨t, e, s _ _ h⟩ (DpP.mono s r)
theorem DpP.append {H : Hp} : ∀ {xs ys : List V} {cs ds : List Pr}, DpP H xs cs → DpP H ys ds → DpP H (xs ++ ys) (cs ++ ds)
  | _, _, _, _, .nil, s => s
  | _, _, _, _, .cons a r, s => .cons a (DpP.append r s)
theorem DpP.len {H : Hp} : ∀ {xs : List V} {cs : List Pr}, DpP H xs cs → xs.length = cs.length
  | _, _, .nil => rfl
  | _, _, .cons _ r => by simp [DpP.len r]
theorem DpP.dp {K : PySem.W.Frag} {H : Hp} : ∀ {xs : List V} {cs : List Pr}, DpP H xs cs → DpAll K H xs (cs.map prD)
  | _, _, .nil => .nil
  | _, _, .cons ⟨t, e, h⟩ r => by
    subst e
    exact .cons (.tup (SqT.of h) (.cons (.int _) (.cons (.int _) .nil))) (DpP.dp r)
theorem pr_mxl : ∀ es : List Pr, mxlAll (es.map prD) ≤ 3
  | [] => by simp [mxlAll]
  | e :: r => by
    have := pr_mxl r
    simp only [List.map_cons, mxlAll, prD, mxl, List.length_cons, List.length_nil]
    omega
theorem pr_depth : ∀ es : List Pr, PyData.depthAll (es.map prD) ≤ 1
  | [] => by simp [PyData.depthAll]
  | e :: r => by
    have := pr_depth r
    simp only [List.map_cons, PyData.depthAll, prD, PyData.depth]
    omega
/-- all points in their order -/
def dueL (z : Sz) : Nat → List Pr
  | 0 => []
  | m + 1 => dueL z m ++ (List.range (szM z m).toNat).map fun (w : Nat) => ((m : Int), (w : Int))
theorem due_len {z : Sz} (W : Wf z) : ∀ m : Nat, ((dueL z m).length : Int) = ahM z m
  | 0 => by
    show (0 : Int) = ahM z 0
    rw [ah_zero W]
  | m + 1 => by
    have ih := due_len W m
    have s := ah_succ W (m : Int)
    have r := sz_range W (m : Int)
    have e : ((m + 1 : Nat) : Int) = (m : Int) + 1 := by omega
    rw [e, s]
    unfold dueL
    rw [List.length_append, List.length_map, List.length_range]
    omega
theorem due_at {z : Sz} (W : Wf z) {k w : Int} (k0 : 0 ≤ k) (w0 : 0 ≤ w) (w1 : w < szM z k) : ∀ m : Nat, k < m → (dueL z m)[(ahM z k + w).toNat]? = some (k, w)
  | 0, h => by omega
  | m + 1, h => by
    have l := due_len W m
    have a0 := (ah_range W k0).1
    unfold dueL
    by_cases hk : k < m
    · have mo := ah_mono W (show k + 1 ≤ (m : Int) by omega)
      have s := ah_succ W k
      rw [List.getElem?_append_left (by omega)]
      exact due_at W k0 w0 w1 m hk
    · have e : k = (m : Int) := by omega
      rw [List.getElem?_append_right (by rw [← e] at l; omega)]
      have e2 : (ahM z k + w).toNat - (dueL z m).length = w.toNat := by rw [← e] at l; omega
      have hw : w.toNat < (szM z (m : Int)).toNat := by rw [← e]; omega
      rw [e2, List.getElem?_map, List.getElem?_range hw]
      show some ((m : Int), (w.toNat : Int)) = some (k, w)
      rw [e]
      congr 2
      omega
theorem ints2 {a b r : Int} (h0 : 0 ≤ r) (h1 : r < 2) : ∃ n, (n = a ∨ n = b) ∧ atI [V.int a, .int b] r = some (.int n) := by
  have : r = 0 ∨ r = 1 := by omega
  rcases this with rfl | rfl
  · exact ⟨a, .inl rfl, atI_nat (j := 0) rfl⟩
  · exact ⟨b, .inr rfl, atI_nat (j := 1) rfl⟩
theorem rel0 (n c : Int) : Rel ⟨n, c, []⟩ ⟨n, c, [], []⟩ := ⟨rfl, rfl, fun k => rfl, .nil⟩
theorem zw0 (n c : Int) : Zw ⟨n, c, [], []⟩ := ⟨List.nodup_nil, fun e he => (nomatch he), List.nodup_nil⟩
theorem szw_ins {C : Addr} {H : Hp} {p d : Addr} {z : Sz} (S : SzW C H p d z) : ∃ dx, H p = some (.ins C dx (fldZ z.many z.common d)) := by
  obtain ⟨dx, kvs, h1, _⟩ := S
  exact ⟨dx, h1⟩
theorem szw_dict {C : Addr} {H : Hp} {p d : Addr} {z : Sz} (S : SzW C H p d z) : ∃ kvs, H d = some (.dK kvs) := by
  obtain ⟨dx, kvs, h1, h2, _⟩ := S
  exact ⟨kvs, h2⟩
def spLaw (K : PySem.W.Frag) : Sp := fun vs H Q _ => ∃ (a : Addr) (ns : List Int), vs = [.ref a] ∧ SqL K H a (ns.map V.int) ∧ ns.length ≤ 63 ∧ ∀ H', Q (.bl true) H'
end Gs

set_option Elab.async false
set_option linter.all false
set_option maxRecDepth 100000
set_option maxHeartbeats 4000000
namespace Gs
open PySem PySem.Spec PyProof.Rows L2
/-! ### except (A, B) as n -/
def wAsT (K : PySem.W.Frag) (c1 c2 : Value) (i : Nat) (ts : Addr → Value → Option Addr → TS) (Wo : WX) (D : Ends) : WX := fun cls d σ H =>
  ∃ yes, PySem.W.exmAny K cls [c1, c2] = some yes ∧ (yes = false → Wo cls d σ H) ∧ (yes = true → ∀ a, H a = none → ts a cls d { nx := fun τ J => D.nx (τ.set i none) J, rt := D.rt, bk := fun τ J => D.bk (τ.set i none) J, ct := fun τ J => D.ct (τ.set i none) J } (σ.set i (some (.ref a))) H)
theorem fly_push {B h : Heap} {l : List Env} {e : Addr} {Zp : Obj → Prop} (x : HandSPX.FlyingZ B l e Zp h) (o : Obj) : HandSPX.FlyingZ B l e Zp (h.push o) := by
  have kp : ∀ q u, h.get? q = some u → (h.push o).get? q = some u := fun _ _ z => Heap.get?_push_of_some _ z
  obtain ⟨y1, y2, y3, oe, vs, t, ot, us, z1, z2, z3, z4, z5, z6, z7, z8, z9⟩ := x
  exact ⟨fun q u r => kp q u (y1 q u r), y2, y3.of_keeps (fun b u r _ => ⟨u, kp b u r, rfl⟩), oe, vs, t, ot, us, kp _ _ z1, z2, z3, z4, z5, z6, kp _ _ z7, z8, z9⟩
section
variable {X : Cx} {x1 x2 n : Str} {c1 c2 : Value} {i kk : Nat} {body suite : List Stmt} {b₀ : Stmt} {p1 p2 tp pos pos' : Pos} {tb : WX → TS} {ts : Addr → Value → Option Addr → TS} {Wo : WX}
theorem ld_names {c : Value} {x : Str} {np : Pos} {pins : List (Addr × Obj)} {s : Shared} {σ : L2.St} {H : Hp} {Q E : Value → Shared → Prop} (hc : Names X x c) (I : Inv X pins σ H s) (q : Q c s) : wpAny (model X.prog X.w) X.A (eval (.Name x np) X.env) Q E s := by
  rcases hc with ⟨g, db, m | ⟨m, v, nn⟩⟩
  · exact ld_glob I g m q db
  · exact ld_blt I g m v q nn db
theorem ps_try_asT (hs : X.stack = X.env :: X.outer) (hf : X.env.frame = some X.env.locals) (hN : X.N.Nodup) (hi : X.N[i]? = some n) (hln : X.env.kindOf n = some .local) (n1 : Names X x1 c1) (n2 : Names X x2 c2) (tk : Takes X Wo)
    (hb : ∀ (W : WX) (pn : List (Addr × Obj)) (xe : Value → Shared → Prop), Takes (X.tr pn xe) W → PassesOwn (model X.prog X.w) X.A X.env xe → PSs (X.tr pn xe) body (tb W))
    (hsu : ∀ (a : Addr) (oe : Obj) (cls : Value) (d : Option Addr) (pn : List (Addr × Obj)), Zc cls d oe → (∃ vs, oe.data = .fields vs) → PSs (X.suite a ((a, oe) :: pn)) (b₀ :: suite) (ts a cls d)) :
    PS X (.Try body [.ExceptHandler (some (.Tuple [.Name x1 p1, .Name x2 p2] kk tp)) (some n) (b₀ :: suite) pos'] [] [] pos) (fun D σ H => tb (wAsT X.K c1 c2 i ts Wo D) D σ H) := by
  constructor
  intro pins s σ H D I h
  have ok := I.ok; have hfr : X.A.frames = some (X.env :: X.outer) := by rw [ok.frames, hs]
  have bind_at : Loc X.env.scope n := .inl hln
  apply wpAny_Try_except
  have run := (hb (wAsT X.K c1 c2 i ts Wo D) (X.pn ++ pins) (fun e u₁ => wpAny (model X.prog X.w) X.A (noteFrame e X.env) (fun _ u₂ => wpAny (model X.prog X.w) X.A (setFlight e none) (fun _ u₃ => wpAny (model X.prog X.w) X.A (handleBy e X.env [.ExceptHandler (some (.Tuple [.Name x1 p1, .Name x2 p2] kk tp)) (some n) (b₀ :: suite) pos']) (SP X pins D) X.xe u₃) X.xe u₂) X.xe u₁) (fun u s' xx => ?hit) PassesOwn.looking).run [] s σ H D (I.toTry _) h
  case hit =>
    obtain ⟨a, B, sI, pins', σ', H', cls, d, rfl, J', nb, up, sky, na, os, ag, yes, hyes, out, inn⟩ := xx
    have J : Inv X pins σ' H' sI := J'.ofTry ok
    rw [hs] at sky
    show wpAny (model X.prog X.w) X.A (noteFrame (.ref a) X.env) _ _ _
    refine Sky.land Zc.steady hfr hf sky fun hA flA upA => ?_
    have JA : Inv X pins σ' H' { s' with heap := hA } := J.landed nb flA.1 (up.trans upA) os ag
    obtain ⟨oA, vA, gA, zA, dA⟩ := flA.there
    have off : a ∉ frs (X.env :: X.outer) := fun hm => by
      obtain ⟨_, o2, g2, no⟩ := flA.2.2.1.mem hm
      rw [gA] at g2; cases g2
      exact no _ dA
    have offL : a ≠ X.env.locals := fun z => off (List.mem_filterMap.mpr ⟨X.env, List.mem_cons_self, by rw [hf, z]⟩)
    have offF : a ∉ X.fs := fun hm => by
      obtain ⟨v, hv, q⟩ := List.mem_filterMap.mp hm
      exact off (List.mem_filterMap.mpr ⟨v, List.mem_cons_of_mem _ hv, q⟩)
    have SA := JA.suite gA dA na offL offF
    refine wpAny_handleBy_cons (codeAny_handlers_test ?_) (by intro q; cases q)
    refine wpAny_Tuple (wpAny_items_cons (ld_names (X := X.suite a ((a, oA) :: (X.pn ++ pins))) n1 SA (wpAny_items_cons (ld_names (X := X.suite a ((a, oA) :: (X.pn ++ pins))) n2 SA (wpAny_items_nil ⟨show 2 ≤ sizeLine by decide, ?_⟩)))))
    -- the tuple of the two lies behind all that was there
    obtain ⟨hP, ehP⟩ : ∃ hP, hP = hA.push { cls := .type "tuple", data := .seq [c1, c2].toArray } := ⟨_, rfl⟩
    have flP : HandSPX.FlyingZ B (X.env :: X.outer) a (Zc cls d) hP := by rw [ehP]; exact fly_push flA _
    have upP : hA.UpToSlots hP := fun b u r _ => ⟨u.slots, by rw [ehP]; exact Heap.get?_push_of_some _ r⟩
    have JP : Inv X pins σ' H' { s' with heap := hP } := J.landed nb flP.1 ((up.trans upA).trans upP) os ag
    obtain ⟨oP, vP, gP, zP, dP⟩ := flP.there
    have kind : PySem.W.Looks (model X.prog X.w) hP (typeOf (.ref a)) cls := fun A Q E s keep q => wpAny_typeOf_ref (keep _ _ gP) (by rw [zP.1]; exact q)
    have tupAt : hP.get? hA.objs.size = some { cls := .type "tuple", data := .seq [c1, c2].toArray } := by rw [ehP]; exact Heap.get?_push_size hA rfl
    have says := PySem.W.exm_tup2 (M := model X.prog X.w) JP.kIn kind tupAt hyes
    show wpAny _ _ (excMatches (.ref a) (.ref hA.objs.size)) _ _ { s' with heap := hA.push _ }
    rw [← ehP]
    refine says.here ?_
    cases yes
    · show wpAny _ X.A (handleBy (.ref a) X.env []) _ _ _
      refine wpAny_handleBy_nil ?_
      obtain ⟨_, _, _, oQ, vQ, t, ot, us, gQ, zQ, dQ, f1, _⟩ := id flP
      unfold PySem.passOn
      refine wpAny_bind (wpAny_field gQ dQ f1 ?_)
      rw [if_neg (show ¬ ((Value.ref t == Value.none) = true) from by simp)]
      have fin : wpAny (model X.prog X.w) X.A (setFlight (.ref a) X.env.frame) (fun _ s4 => wpAny (model X.prog X.w) X.A (throw (.ref a) : Sem Flow) (SP X pins D) X.xe s4) X.xe { s' with heap := hP } := by
        rw [hf]
        exact HandSPX.setFlight_upZ flP fun h4 hh4 up4 => wpAny_throw (tk _ _ ⟨a, B, sI, pins, σ', H', cls, d, rfl, J, nb, ((up.trans upA).trans upP).trans up4, .inr (.inr (by rw [hs]; exact hh4)), na, os, ag, out rfl⟩)
      first | exact wpAny_bind (wpAny_pure (wpAny_bind fin)) | exact wpAny_bind fin
    · refine codeAny_handlers_suite_as (HandSPX.lands_againZ flP fun hB flB upB => ?_)
      have JB : Inv X pins σ' H' { s' with heap := hB } := J.landed nb flB.1 (((up.trans upA).trans upP).trans upB) os ag
      obtain ⟨oB, vB, gB, zB, dB⟩ := flB.there
      refine store_ok (X := X.suite a ((a, oB) :: (X.pn ++ pins))) (v := .ref a) (JB.suite gB dB na offL offF) hN hi bind_at rfl (fun s5 S5 => ?_) (.inr hln)
      have unb : ∀ {s6 : Shared} {τ : L2.St} {J6 : Hp} {Q : Shared → Prop}, Inv (X.suite a ((a, oB) :: (X.pn ++ pins))) [] τ J6 s6 → (∀ s7, Inv X pins (τ.set i none) J6 s7 → Q s7) → wpAny (model X.prog X.w) X.A (do bindName X.env n .none; unbindBehindTheSuite X.env n pos') (fun _ s7 => Q s7) X.xe s6 := fun S6 hq => gone_ok (S6.unsuite ok) hN hi hln hq
      refine wpAny_mono ((hsu a oB cls d (X.pn ++ pins) zB ⟨_, dB⟩).run [] s5 _ H' _ S5 (inn rfl a na)) (fun f s6 e6 => ?_) (fun _ _ z => False.elim z)
      cases f with
      | ret u => obtain ⟨v6, τ, J6, S6, r6, q6⟩ := e6; exact unb S6 fun s7 J7 => ⟨_, _, _, J7, r6, q6⟩
      | next => obtain ⟨τ, J6, S6, q6⟩ := e6; exact unb S6 fun s7 J7 => ⟨_, _, J7, q6⟩
      | brk => obtain ⟨τ, J6, S6, q6⟩ := e6; exact unb S6 fun s7 J7 => ⟨_, _, J7, q6⟩
      | cont => obtain ⟨τ, J6, S6, q6⟩ := e6; exact unb S6 fun s7 J7 => ⟨_, _, J7, q6⟩
  refine wpAny_mono run (fun f s1 e1 => ?_) (fun e s1 he => he)
  cases f with
  | ret u => obtain ⟨v, τ, J1, I1, r, q⟩ := e1; exact ⟨v, τ, J1, I1.ofTry ok, r, q⟩
  | next => obtain ⟨τ, J1, I1, q⟩ := e1; exact wpAny_execs_nil ⟨τ, J1, I1.ofTry ok, q⟩
  | brk => obtain ⟨τ, J1, I1, q⟩ := e1; exact ⟨τ, J1, I1.ofTry ok, q⟩
  | cont => obtain ⟨τ, J1, I1, q⟩ := e1; exact ⟨τ, J1, I1.ofTry ok, q⟩
end
theorem exm_any2 {K : PySem.W.Frag} {cls c1 c2 : Value} {b1 b2 : Bool} (h1 : PySem.W.exmOne K cls c1 = some b1) (h2 : PySem.W.exmOne K cls c2 = some b2) : PySem.W.exmAny K cls [c1, c2] = some (b1 || b2) := by
  unfold PySem.W.exmAny
  rw [h1]
  unfold PySem.W.exmAny
  rw [h2]
  unfold PySem.W.exmAny
  simp
theorem same_noneP {P : Program} {w : World} {K : PySem.W.Frag} {mg : Str → Option Value} {base : Heap} {f : Addr} {fd : FuncData} {ps : List Str} : FnOk P w K mg base CX0 0 f fd ps (spSame K 0) := by
  have no : ∀ vs H Q E, ¬ spSame K 0 vs H Q E := fun vs H Q E h => by
    obtain ⟨x, y, d, _, _, _, h1, _⟩ := h
    omega
  exact ⟨fun vs H Q E h => absurd h (no vs H Q E), fun A outer s H args us vs Q E _ _ _ _ h => absurd h (no vs H Q E)⟩
theorem mt_indexK {X : Cx} {K : PySem.W.Frag} (h : X.K = K) : L2.MtR X "list.index" (rIndex K) := by subst h; exact mt_index
theorem pe_bm1K {X : Cx} {K : PySem.W.Frag} {o e : Expr} {to : TE} {ta : TA} {name : Str} {apos cpos : Pos} {T id : String} {r : V → List V → Hp → VK → Prop} (hK : X.K = K) (pa : PlainAttrs T) (slot : Slot T name id) (hty : typeOf (.builtin id) = pure (.type "method_descriptor")) (hm : L2.MtR X id r) (ho : PE X o to) (ha : PA X [e] ta)
    (h1 : attributeBase o name X.env (eval o X.env) = eval o X.env := by rfl)
    (h2 : ((backTo cpos (starEach [e] X.env)).all (fun x => !x.1) && (backToKw cpos (keywordEach [] X.env)).all (fun x => x.1.isSome) && decide (([e] : List Expr).length + ([] : List Keyword).length + (if ([] : List Keyword).isEmpty then 0 else 1) < 30)) = true := by rfl)
    (h3 : (apos.endLine == cpos.line) = true := by rfl) (h4 : starEach [e] X.env = (false, eval e X.env) :: starEach [] X.env := by rfl) (h5 : (backTo cpos (starEach [] X.env)).any (·.1) = false := by rfl) : PE X (.Call (.Attribute o name apos) [e] [] cpos) (tBM K T r to ta) := by
  subst hK
  exact pe_bm pa slot hty hm ho ha h1 h2 h3 h4 h5
def spFarB : Sp := fun vs H Q _ => ∃ a : Addr, vs = [.ref a] ∧ DrawAt H a ∧ ∀ (i : Int) (H' : Hp), (-(10 ^ 40) ≤ i ∧ i ≤ 10 ^ 40) → (i < -1000000 ∨ 1000000 < i) → Gs.Ext a H H' → Q (.int i) H'
theorem Sm.of2 {i : Int} (h0 : -(10 ^ 45) ≤ i) (h1 : i ≤ 10 ^ 45) : Sm i := by
  have : i.natAbs ≤ 10 ^ 45 := by omega
  exact Nat.lt_of_le_of_lt this (by decide)
end Gs

set_option Elab.async false
set_option linter.all false
set_option maxRecDepth 100000
set_option maxHeartbeats 4000000
namespace Gs
open PySem L2
/-! ### a def called with keywords, and one with a default left out -/
def Kn (P : Program) (w : World) (K : PySem.W.Frag) (mg : Str → Option Value) (base : Heap) (CX : CXT) (k : Nat) (x : Str) (ps : List Str) (n : Nat) (ks : List Str) (gV : List V → List V → List V) (sp : Sp) : Prop :=
  ∃ (f : Addr) (fd : FuncData) (g : List Value → List Value → List Value), FnOk P w K mg base CX k f fd ps sp ∧ mg x = some (.ref f) ∧ PySem.W.keepIn K (.ref f) = true ∧ KBn K fd ps n ks g gV
def Dd (P : Program) (w : World) (K : PySem.W.Frag) (mg : Str → Option Value) (base : Heap) (CX : CXT) (k : Nat) (x : Str) (ps : List Str) (dv : List V) (sp : Sp) : Prop :=
  ∃ (f : Addr) (fd : FuncData) (ds : List Value), FnOk P w K mg base CX k f fd ps sp ∧ mg x = some (.ref f) ∧ PySem.W.keepIn K (.ref f) = true ∧ Vals dv ds ∧ Binds K fd ps ds
def tCallNS (n m : Nat) (sp : Sp) (gV : List V → List V → List V) (E : St → XK) (t tk : TA) : TE := fun σ H Q => t σ H fun vs H1 => tk σ H1 fun zs H2 => vs.length = n ∧ zs.length = m ∧ sp (gV vs zs) H2 Q (E σ)
/-- how a call is written: keywords ks behind plain arguments, of which there is one at least -/
structure Written (X : Cx) (e : Expr) (es : List Expr) (kws : List Keyword) (pos : Pos) (ks : List Str) : Prop where
  named : (backToKw pos (keywordEach kws X.env)).all (·.1.isSome) = true
  names : (backToKw pos (keywordEach kws X.env)).filterMap (·.1) = ks
  star : starEach (e :: es) X.env = (false, eval e X.env) :: starEach es X.env
  bare : ((backTo pos (starEach (e :: es) X.env)).any (·.1) || (backToKw pos (keywordEach kws X.env)).any (·.1.isNone)) = false
section
variable {X : Cx} {CX : CXT} {k n : Nat} {ps ks : List Str} {sp : Sp} {x : Str} {p pos : Pos} {e : Expr} {es : List Expr} {kws : List Keyword} {t tk : TA} {gV : List V → List V → List V} {dv : List V}
theorem pe_callDd {E : XK} (D : Dd X.prog X.w X.K X.mg X.base CX k x ps dv sp) (hr : Room k X.A) (hg : Gl X x) (hx : Passes CX X E)
    (ha : PA X (e :: es) t) (hdb : (x == ("__debug__" : Str)) = false := by decide) (he : starEach (e :: es) X.env = (false, eval e X.env) :: starEach es X.env := by rfl) (hpl : (backTo pos (starEach es X.env)).any (·.1) = false := by rfl) :
    PE X (.Call (.Name x p) (e :: es) [] pos) (tCall sp dv E t) := by
  obtain ⟨f, fd, ds, F, m, kp, v, b⟩ := D
  exact pe_call F hr hg m kp b v hx ha hdb he hpl
theorem pe_callKD {E : XK} (D : Kn X.prog X.w X.K X.mg X.base CX k x ps n ks gV sp) (hr : Room k X.A) (hg : Gl X x) (hx : Passes CX X E) (ha : PA X (e :: es) t) (hkw : PK X kws tk)
    (nd : (x == ("__debug__" : Str)) = false := by decide) (w : Written X e es kws pos ks := by exact ⟨by rfl, by rfl, by rfl, by rfl⟩) : PE X (.Call (.Name x p) (e :: es) kws pos) (tCallN n ks.length sp gV E t tk) :=
  let ⟨_, _, _, F, m, kp, b⟩ := D
  pe_callN F hr hg m kp b hx ha hkw w.named w.names nd w.star w.bare
theorem pe_callKSD {E : St → XK} (D : Kn X.prog X.w X.K X.mg X.base CX k x ps n ks gV sp) (hr : Room k X.A) (hg : Gl X x) (hx : ∀ σ, PassesAt CX X σ (E σ)) (ha : PA X (e :: es) t) (hkw : PK X kws tk)
    (hdb : (x == ("__debug__" : Str)) = false := by decide) (w : Written X e es kws pos ks := by exact ⟨by rfl, by rfl, by rfl, by rfl⟩) : PE X (.Call (.Name x p) (e :: es) kws pos) (tCallNS n ks.length sp gV E t tk) := by
  obtain ⟨hall, hks, he, hpl⟩ := w
  obtain ⟨f, fd, g, F, m, kp, hb⟩ := D
  refine ⟨fun pins s σ H Q I h => ?_⟩
  refine wpAny_Call_Name_kw (ld_glob I hg m ?_ hdb)
  refine PySem.W.callWith_KW (h₀ := X.base) I.ok.mod.kin kp hall (thn (ha.run pos pins s σ H _ I h) fun us s1 ⟨vs, H1, I1, r, q⟩ => ?_) hpl he
  refine thn (hkw.run pos pins s1 σ H1 _ I1 q) fun ws s2 ⟨zs, H2, I2, rz, l1, l2, q2⟩ => ⟨I2.kIn, ?_⟩
  rw [hks]
  have r2 := hb.rel r rz
  refine wpAny_call (codeAny_mono (F.run X.A X.stack s2 H2 ⟨us, ks.zip ws⟩ (g us ws) (gV vs zs) Q (E σ) hr I2.env0 (hb.to s2 us ws I2.kIn (r.length.symm.trans l1) (rz.length.symm.trans l2)) r2 q2) fun r s' hq => ?_)
  cases r with
  | error e => exact hx σ pins H2 s2 e s' I2 hq
  | ok fl =>
    cases fl with
    | ret u => exact I2.after hq
    | next => exact False.elim hq
    | brk => exact False.elim hq
    | cont => exact False.elim hq
end
/-! ### texts -/
theorem split_len (x y : Str) : (Txt.split x y).length ≤ x.length + 2 := by
  unfold Txt.split
  split
  · simp
  split
  · simp
  · unfold Builtin.Str.partsBetween
    simp only [List.length_map, List.length_zip, List.length_cons, List.length_append, List.length_nil]
    have := StrLaws.occ_length_le x y 0 x.length (x.length + 1)
    omega
theorem split_mem {x y z : Str} (h : z ∈ Txt.split x y) : z.length ≤ x.length := by
  unfold Txt.split at h
  split at h
  · rw [List.mem_singleton.mp h]; exact Nat.le_refl _
  split at h
  · rw [List.mem_singleton.mp h]; exact Nat.le_refl _
  · unfold Builtin.Str.partsBetween at h
    obtain ⟨⟨i, j⟩, _, e⟩ := List.mem_map.mp h
    rw [← e]
    show (x.cps.extract i j).size ≤ x.cps.size
    rw [Array.size_extract]
    omega
def wordsM (t : Str) : List Str := (Txt.split t " ").filter fun w => decide (0 < w.length)
theorem words_len (t : Str) : (wordsM t).length ≤ t.length + 2 := Nat.le_trans (List.length_filter_le _ _) (split_len _ _)
theorem words_mem {t x : Str} (h : x ∈ wordsM t) : x.length ≤ t.length ∧ 0 < x.length := by
  unfold wordsM at h
  rw [List.mem_filter] at h
  exact ⟨split_mem h.1, of_decide_eq_true h.2⟩
theorem str_ne {w : Str} : (!decide (V.str w = V.str "")) = decide (0 < w.length) := by
  by_cases h : w = ""
  · subst h
    rfl
  · have h1 : ¬ V.str w = V.str "" := fun e => h (by injection e)
    rw [decide_eq_false h1]
    have : 0 < w.length := by
      rcases Nat.eq_zero_or_pos w.length with q | q
      · exfalso
        apply h
        have : w.cps = #[] := Array.eq_empty_of_size_eq_zero q
        cases w
        simp only at this
        subst this
        rfl
      · exact q
    rw [decide_eq_true this]
    rfl
def npM (w : Int) (x : Str) : Nat := (Builtin.Range.rangeSize 0 (x.length : Int) w).toNat
theorem np_eq (w : Int) (x : Str) : Builtin.Range.rangeSize 0 (x.length : Int) w = (npM w x : Int) := PyProof.Rows.rangeSize_toNat _ _ _
theorem np_le (w : Int) (x : Str) : npM w x ≤ x.length := by
  have := PyProof.Rows.rangeSize_toNat_le 0 (x.length : Int) w
  unfold npM
  omega
def pcM (w : Int) (x : Str) : List Str := (List.range (npM w x)).map fun (i : Nat) => cutS x (some (0 + (i : Nat) * w)) (some (0 + (i : Nat) * w + w))
theorem pc_len (w : Int) (x : Str) : (pcM w x).length ≤ x.length := by
  unfold pcM
  rw [List.length_map, List.length_range]
  exact np_le w x
theorem cut_le (x : Str) (a b : Option Int) : (cutS x a b).length ≤ x.length := by
  unfold cutS
  show (((x.cps.toList.drop _).take _).toArray).size ≤ x.cps.size
  rw [List.size_toArray, List.length_take, List.length_drop, Array.length_toList]
  omega
theorem pc_mem {w : Int} {x y : Str} (h : y ∈ pcM w x) : y.length ≤ x.length := by
  unfold pcM at h
  obtain ⟨i, _, e⟩ := List.mem_map.mp h
  rw [← e]
  exact cut_le _ _ _
def stepM (w : Int) (ls : List Str) (x : Str) : List Str :=
  match ls[ls.length - 1]? with
  | some l => if (l.length : Int) + 1 + x.length ≤ w then ls.set (ls.length - 1) (l ++ " " ++ x) else ls ++ pcM w x
  | none => ls ++ pcM w x
def linesM (w : Int) (ws : List Str) : List Str := ws.foldl (stepM w) []
theorem lines_snoc (w : Int) (ws : List Str) {j : Nat} {x : Str} (h : ws[j]? = some x) : linesM w (ws.take (j + 1)) = stepM w (linesM w (ws.take j)) x := by
  unfold linesM
  rw [List.take_add_one, h]
  simp
theorem step_len (w : Int) (ls : List Str) (x : Str) : (stepM w ls x).length ≤ ls.length + x.length := by
  have := pc_len w x
  unfold stepM
  split
  · split
    · rw [List.length_set]; omega
    · rw [List.length_append]; omega
  · rw [List.length_append]; omega
theorem lines_len {w : Int} {B : Nat} : ∀ (ws : List Str) (acc : List Str), (∀ x ∈ ws, x.length ≤ B) → (ws.foldl (stepM w) acc).length ≤ acc.length + B * ws.length
  | [], acc, _ => by simp
  | x :: r, acc, h => by
    have ih := lines_len (w := w) r (stepM w acc x) fun y hy => h y (List.mem_cons_of_mem _ hy)
    have h1 := step_len w acc x
    have h2 := h x List.mem_cons_self
    simp only [List.foldl_cons, List.length_cons]
    rw [Nat.mul_succ]
    omega
theorem step_mem {w : Int} {ls : List Str} {x y : Str} {B : Nat} (hl : ∀ l ∈ ls, l.length ≤ B) (hx : x.length ≤ 60) (h : y ∈ stepM w ls x) : y.length ≤ B + 61 := by
  have pcs : y ∈ ls ++ pcM w x → y.length ≤ B + 61 := fun q => by
    rcases List.mem_append.mp q with q | q
    · have := hl y q; omega
    · have := pc_mem q; omega
  unfold stepM at h
  split at h
  · rename_i l e
    split at h
    · rcases List.mem_or_eq_of_mem_set h with q | q
      · have := hl y q; omega
      · have hl' := hl l (List.mem_of_getElem? e)
        rw [q, PySem.Str.length_append, PySem.Str.length_append]
        have : (" " : Str).length = 1 := by decide
        omega
    · exact pcs h
  · exact pcs h
theorem lines_mem {w : Int} : ∀ (ws : List Str) (acc : List Str) (B : Nat), (∀ x ∈ ws, x.length ≤ 60) → (∀ l ∈ acc, l.length ≤ B) → ∀ y ∈ ws.foldl (stepM w) acc, y.length ≤ B + 61 * ws.length
  | [], acc, B, _, hl, y, h => by simpa using hl y h
  | x :: r, acc, B, hx, hl, y, h => by
    have ih := lines_mem r (stepM w acc x) (B + 61) (fun z hz => hx z (List.mem_cons_of_mem _ hz)) (fun l q => step_mem hl (hx x List.mem_cons_self) q) y h
    simp only [List.length_cons]
    omega
def setM (t : Str) (w : Int) (b : Bool) : List Str := if b = true then linesM w (wordsM t) else [cutS t none (some w)]
theorem set_small {t : Str} {w : Int} {b : Bool} (h : t.length ≤ 60) : (setM t w b).length ≤ 4000 ∧ ∀ y ∈ setM t w b, y.length ≤ 4000 := by
  unfold setM
  have wl := words_len t
  split
  · refine ⟨?_, fun y hy => ?_⟩
    · have := lines_len (w := w) (B := 60) (wordsM t) [] fun x hx => Nat.le_trans (words_mem hx).1 h
      have e : (linesM w (wordsM t)).length ≤ 0 + 60 * (wordsM t).length := this
      omega
    · have := lines_mem (w := w) (wordsM t) [] 0 (fun x hx => Nat.le_trans (words_mem hx).1 h) (fun l hl => nomatch hl) y hy
      omega
  · refine ⟨by simp, fun y hy => ?_⟩
    rw [List.mem_singleton.mp hy]
    have := cut_le t none (some w)
    omega
/-- signs that are such -/
def OkS (x : Str) : Prop := ∀ c ∈ x.cps.toList, c < 0x110000
/-! ### the draw with its list named -/
def DrawL (H : Hp) (a l : Addr) : Prop := ∃ (ns : List Int) (i left seed n : Int), H a = some (drawO l i left seed n) ∧ H l = some (.lst (ns.map V.int)) ∧ 0 ≤ i ∧ 0 ≤ seed ∧ seed < 1000000007
theorem DrawL.at_ {H : Hp} {a l : Addr} (D : DrawL H a l) : DrawAt H a := ⟨l, D⟩
theorem DrawAt.lst {H : Hp} {a : Addr} (D : DrawAt H a) : ∃ l, DrawL H a l := D
theorem DrawL.same {H H' : Hp} {a l : Addr} (d : DrawL H a l) (e : Same H H') : DrawL H' a l := by
  obtain ⟨ns, i, left, seed, n, h1, h2, r⟩ := d
  exact ⟨ns, i, left, seed, n, e _ _ h1, e _ _ h2, r⟩
theorem DrawL.upd {H : Hp} {a l D : Addr} (d : DrawL H a l) (h1 : D ≠ a) (h2 : D ≠ l) (o : HO) : DrawL (L2.upd H D o) a l := by
  obtain ⟨ns, i, left, seed, n, e1, e2, r⟩ := d
  exact ⟨ns, i, left, seed, n, by rw [upd_ne h1.symm]; exact e1, by rw [upd_ne h2.symm]; exact e2, r⟩
theorem DrawL.new {H : Hp} {a l p : Addr} (d : DrawL H a l) (h : H p = none) : p ≠ a ∧ p ≠ l := by
  obtain ⟨ns, i, left, seed, n, e1, e2, r⟩ := d
  exact ⟨(ne_of_none e1 h).symm, (ne_of_none e2 h).symm⟩
/-- all but the draw is as it was -/
def ExtL (a l : Addr) (H H' : Hp) : Prop := DrawL H' a l ∧ ∀ b o, b ≠ a → H b = some o → H' b = some o
theorem ExtL.trans {a l : Addr} {H H1 H2 : Hp} (x : ExtL a l H H1) (y : ExtL a l H1 H2) : ExtL a l H H2 := ⟨y.1, fun b o n h => y.2 b o n (x.2 b o n h)⟩
theorem ExtL.same {a l : Addr} {H H1 H2 : Hp} (x : ExtL a l H H1) (y : Same H1 H2) : ExtL a l H H2 := ⟨x.1.same y, fun b o n h => y b o (x.2 b o n h)⟩
theorem ExtL.of {a l : Addr} {H H1 : Hp} (d : DrawL H a l) (y : Same H H1) : ExtL a l H H1 := ⟨d.same y, fun b o _ h => y b o h⟩
theorem ExtL.pick {a l : Addr} {H H1 : Hp} (d : DrawL H1 a l) (e : ∀ b, b ≠ a → H1 b = H b) : ExtL a l H H1 := ⟨d, fun b o n h => by rw [e b n]; exact h⟩
theorem ExtL.refl {a l : Addr} {H : Hp} (d : DrawL H a l) : ExtL a l H H := ⟨d, fun _ _ _ h => h⟩
theorem ExtL.tup {a l b : Addr} {H H1 : Hp} {xs : List V} (x : ExtL a l H H1) (d : DrawL H a l) (h : H b = some (.tup xs)) : H1 b = some (.tup xs) := x.2 b _ (d.at_.neT h) h
theorem ExtL.upd {a l D : Addr} {H H1 : Hp} (x : ExtL a l H H1) (n : H D = none) (h1 : D ≠ a) (h2 : D ≠ l) (o : HO) : ExtL a l H (L2.upd H1 D o) := ⟨x.1.upd h1 h2 o, fun b u nb h => by rw [upd_ne (ne_of_none h n)]; exact x.2 b u nb h⟩
def spPickL : Sp := fun vs H Q _ => ∃ (a l : Addr) (many : Int), vs = [.ref a, .int many] ∧ DrawL H a l ∧ 1 ≤ many ∧ many < 1073741824 ∧
  ∀ (r : Int) (H' : Hp), 0 ≤ r → r < many → DrawL H' a l → (∀ b, b ≠ a → H' b = H b) → Q (.int r) H'
/-! ### what the defs promise -/
def spWide (cS : Addr) : Sp := fun vs H Q E => ∃ i : Int, vs = [.int i] ∧ Sm i ∧ (1 ≤ i → Q .non H) ∧ (i < 1 → E (.ref cS) none H)
def spWords : Sp := fun vs H Q _ => ∃ t : Str, vs = [.str t] ∧ t.length ≤ 60 ∧ ∀ (l : Addr) (H' : Hp), H l = none → Same H H' → H' l = some (.lst ((wordsM t).map V.str)) → Q (.ref l) H'
def spPcs : Sp := fun vs H Q _ => ∃ (x : Str) (w : Int), vs = [.str x, .int w] ∧ x.length ≤ 60 ∧ 1 ≤ w ∧ w ≤ 100000000 ∧ ∀ (l : Addr) (H' : Hp), H l = none → Same H H' → H' l = some (.lst ((pcM w x).map V.str)) → Q (.ref l) H'
def spSetL (cS : Addr) : Sp := fun vs H Q E => ∃ (t : Str) (w : Int) (b : Bool), vs = [.str t, .int w, .bl b] ∧ t.length ≤ 60 ∧ Sm w ∧ w ≤ 100000000 ∧
  (1 ≤ w → ∀ (l : Addr) (H' : Hp), H l = none → Same H H' → H' l = some (.lst ((setM t w b).map V.str)) → Q (.ref l) H') ∧ (w < 1 → E (.ref cS) none H)
def spLLines : Sp := fun vs H Q _ => ∃ (t : Str) (w : Int) (b : Bool), vs = [.str t, .int w, .bl b] ∧ t.length ≤ 60 ∧ OkS t ∧ 1 ≤ w ∧ w ≤ 100000000 ∧
  ∀ (l : Addr) (H' : Hp), Same H H' → H' l = some (.lst ((setM t w b).map V.str)) → Q (.ref l) H'
def spOneT : Sp := fun vs H Q _ => ∃ (a l : Addr) (z : Str), vs = [.ref a, .str z] ∧ DrawL H a l ∧ 1 ≤ z.length ∧ z.length ≤ 1000 ∧ OkS z ∧ ∀ (y : Str) (H' : Hp), y.length = 1 → OkS y → DrawL H' a l → (∀ b, b ≠ a → H' b = H b) → Q (.str y) H'
def spTextD : Sp := fun vs H Q _ => ∃ (a l : Addr) (most : Int), vs = [.ref a, .int most] ∧ DrawL H a l ∧ 0 ≤ most ∧ most ≤ 40 ∧ ∀ (t : Str) (H' : Hp), t.length ≤ 48 → OkS t → ExtL a l H H' → Q (.str t) H'
def spTold11 : Sp := fun vs H Q _ => ∃ (t : Str) (w : Int) (b : Bool), vs = [.str t, .int w, .bl b] ∧ t.length ≤ 60 ∧ Sm w ∧ w ≤ 100000000 ∧
  (1 ≤ w → ∀ (l : Addr) (H' : Hp), Same H H' → H' l = some (.lst ((setM t w b).map V.str)) → Q (.ref l) H') ∧ (w < 1 → ∀ H', Same H H' → Q (.str "BadSize") H')
theorem signs_at {r : Int} (h0 : 0 ≤ r) (h1 : r < 5) : ∃ z : Str, atI [V.str "ab ", .str "abcdefg  .", .str "x", .str " ", .str "AZ az 09 ~!#$"] r = some (.str z) ∧ 1 ≤ z.length ∧ z.length ≤ 1000 ∧ PyData.strOk z = true := by
  have : r = 0 ∨ r = 1 ∨ r = 2 ∨ r = 3 ∨ r = 4 := by omega
  rcases this with rfl | rfl | rfl | rfl | rfl
  · exact ⟨_, atI_nat (j := 0) rfl, by decide +kernel, by decide +kernel, by decide +kernel⟩
  · exact ⟨_, atI_nat (j := 1) rfl, by decide +kernel, by decide +kernel, by decide +kernel⟩
  · exact ⟨_, atI_nat (j := 2) rfl, by decide +kernel, by decide +kernel, by decide +kernel⟩
  · exact ⟨_, atI_nat (j := 3) rfl, by decide +kernel, by decide +kernel, by decide +kernel⟩
  · exact ⟨_, atI_nat (j := 4) rfl, by decide +kernel, by decide +kernel, by decide +kernel⟩
theorem RgC.up {j c : Int} (h0 : 0 ≤ j) (h1 : j < 1000000) (hc : 1 ≤ c) (hc' : c ≤ 100000000) : RgC 0 j c (Builtin.Range.rangeSize 0 j c).toNat := by
  refine ⟨by omega, by omega, ?_, PyProof.Rows.rangeSize_toNat _ _ _⟩
  have e := PyProof.Rows.rangeSize_pos hc h0
  have h2 : 0 ≤ (j + c - 1) / c := Int.ediv_nonneg (by omega) (by omega)
  have h3 : (j + c - 1) / c ≤ j := by
    have := PyProof.Rows.rangeSize_toNat_le 0 j c
    rw [e] at this
    omega
  have h4 : ((j + c - 1) / c) * c ≤ j + c - 1 := Int.ediv_mul_le _ (by omega)
  unfold Builtin.Range.small
  rw [e, if_pos (show c > 0 by omega)]
  simp only [Builtin.Range.rangeFitsLong, Bool.and_eq_true, Bool.or_eq_true, decide_eq_true_eq, beq_iff_eq]
  omega
end Gs
namespace Gs
open PySem L2
theorem strs_dp {K : PySem.W.Frag} {H : Hp} : ∀ ns : List Str, DpAll K H (ns.map V.str) (ns.map PyData.str)
  | [] => .nil
  | _ :: r => .cons (.str _) (strs_dp r)
theorem OkS.ok {x : Str} (h : OkS x) : PyData.strOk x = true := by
  unfold PyData.strOk
  rw [← Array.all_toList, List.all_eq_true]
  exact fun c hc => decide_eq_true (h c hc)
theorem app_toList (a b : Str) : (a ++ b).cps.toList = a.cps.toList ++ b.cps.toList := by
  show (a.cps ++ b.cps).toList = _
  exact Array.toList_append
theorem OkS.app {a b : Str} (h1 : OkS a) (h2 : OkS b) : OkS (a ++ b) := fun c hc => by
  rw [app_toList] at hc
  rcases List.mem_append.mp hc with q | q
  · exact h1 c q
  · exact h2 c q
theorem OkS.cut {x : Str} (h : OkS x) (a b : Option Int) : OkS (cutS x a b) := fun c hc => by
  unfold cutS at hc
  exact h c (List.mem_of_mem_drop (List.mem_of_mem_take hc))
theorem OkS.split {x y z : Str} (h : OkS x) (m : z ∈ Txt.split x y) : OkS z := by
  unfold Txt.split at m
  split at m
  · rw [List.mem_singleton.mp m]; exact h
  split at m
  · rw [List.mem_singleton.mp m]; exact h
  · unfold Builtin.Str.partsBetween at m
    obtain ⟨⟨i, j⟩, _, e⟩ := List.mem_map.mp m
    rw [← e]
    intro c hc
    refine h c ?_
    have hc' : c ∈ (x.cps.extract i j).toList := hc
    rw [Array.toList_extract] at hc'
    exact List.mem_of_mem_drop (List.mem_of_mem_take hc')
theorem OkS.one {z : Str} {i : Int} {c : Nat} (h : OkS z) (e : atI z.cps.toList i = some c) : OkS ⟨#[c]⟩ := fun d hd => by
  have hd' : d = c := by simpa using hd
  rw [hd']
  unfold atI at e
  cases q : ixN z.cps.toList.length i with
  | none => rw [q] at e; cases e
  | some j => rw [q] at e; exact h c (List.mem_of_getElem? e)
theorem OkS.join : ∀ {ys : List Str}, (∀ y ∈ ys, OkS y) → OkS (Txt.join "" ys) := fun {ys} h => by
  show OkS (Builtin.Str.glued "" ys)
  rw [StrLaws.glued_eq_join]
  induction ys with
  | nil => intro c hc; exact absurd hc (by show ¬ c ∈ []; simp)
  | cons y r ih =>
    cases r with
    | nil => exact h y List.mem_cons_self
    | cons z r => exact ((h y List.mem_cons_self).app (fun c hc => absurd hc (by show ¬ c ∈ []; simp))).app (ih fun w hw => h w (List.mem_cons_of_mem _ hw))
theorem OkS.of {x : Str} (h : PyData.strOk x = true) : OkS x := by
  unfold PyData.strOk at h
  rw [← Array.all_toList, List.all_eq_true] at h
  exact fun c hc => of_decide_eq_true (h c hc)
theorem OkS.blank : OkS " " := OkS.of (by decide +kernel)
theorem words_ok {t : Str} (h : OkS t) : ∀ x ∈ wordsM t, OkS x := fun x hx => by
  unfold wordsM at hx
  exact h.split (List.mem_filter.mp hx).1
theorem pc_ok {w : Int} {x : Str} (h : OkS x) : ∀ y ∈ pcM w x, OkS y := fun y hy => by
  unfold pcM at hy
  obtain ⟨i, _, e⟩ := List.mem_map.mp hy
  rw [← e]
  exact h.cut _ _
theorem step_ok {w : Int} {ls : List Str} {x : Str} (hl : ∀ l ∈ ls, OkS l) (hx : OkS x) : ∀ y ∈ stepM w ls x, OkS y := fun y h => by
  have pcs : y ∈ ls ++ pcM w x → OkS y := fun q => by
    rcases List.mem_append.mp q with q | q
    · exact hl y q
    · exact pc_ok hx y q
  unfold stepM at h
  split at h
  · rename_i l e
    split at h
    · rcases List.mem_or_eq_of_mem_set h with q | q
      · exact hl y q
      · rw [q]
        exact ((hl l (List.mem_of_getElem? e)).app OkS.blank).app hx
    · exact pcs h
  · exact pcs h
theorem lines_ok {w : Int} : ∀ (ws : List Str) (acc : List Str), (∀ x ∈ ws, OkS x) → (∀ l ∈ acc, OkS l) → ∀ y ∈ ws.foldl (stepM w) acc, OkS y
  | [], acc, _, hl, y, h => hl y h
  | x :: r, acc, hx, hl, y, h => lines_ok r (stepM w acc x) (fun z hz => hx z (List.mem_cons_of_mem _ hz)) (step_ok hl (hx x List.mem_cons_self)) y h
theorem set_ok {t : Str} {w : Int} {b : Bool} (h : OkS t) : ∀ y ∈ setM t w b, OkS y := by
  unfold setM
  split
  · exact lines_ok (wordsM t) [] (words_ok h) (fun l hl => nomatch hl)
  · intro y hy
    rw [List.mem_singleton.mp hy]
    exact h.cut _ _
theorem strs_lay : ∀ ns : List Str, (∀ n ∈ ns, OkS n) → PyData.canLayAll0 (ns.map PyData.str) = true ∧ PyData.depthAll (ns.map PyData.str) = 0
  | [], _ => by simp [PyData.canLayAll0, PyData.depthAll]
  | c :: r, h => by
    obtain ⟨h1, h2⟩ := strs_lay r fun n hn => h n (List.mem_cons_of_mem _ hn)
    have h3 := (h c List.mem_cons_self).ok
    constructor
    · simp [PyData.canLay0, PyData.canLayAll0, h3] at h1 ⊢
      exact h1
    · simp only [List.map_cons, PyData.depthAll, PyData.depth]
      omega
theorem strs_dep : ∀ ns : List Str, PyData.depthAll (ns.map PyData.str) = 0
  | [] => by simp [PyData.depthAll]
  | c :: r => by
    have := strs_dep r
    simp only [List.map_cons, PyData.depthAll, PyData.depth]
    omega
theorem strs_shaped {ns : List Str} (h : ∀ n ∈ ns, OkS n) : SeqAt.shaped (.list (ns.map PyData.str)) = true := by
  obtain ⟨h1, h2⟩ := strs_lay ns h
  unfold SeqAt.shaped
  rw [Bool.and_eq_true]
  refine ⟨by simp only [PyData.canLay0]; exact h1, decide_eq_true ?_⟩
  simp only [PyData.depth]
  omega
theorem nil_shaped : SeqAt.shaped (.list []) = true := by simp [SeqAt.shaped, PyData.canLay0, PyData.canLayAll0, PyData.depth, PyData.depthAll]
theorem strs_nil (cs : List Str) : (!PyData.eqv (.list (cs.map PyData.str)) (.list [])) = !cs.isEmpty := by
  cases cs with
  | nil => simp [PyData.eqv, PyData.eqvAll]
  | cons c r => simp [PyData.eqv, PyData.eqvAll]
theorem strs_mxl : ∀ ns : List Str, mxlAll (ns.map PyData.str) = 0
  | [] => by simp [mxlAll]
  | c :: r => by simp [mxlAll, mxl, strs_mxl r]
theorem strs_depth (ns : List Str) : PyData.depth (.list (ns.map PyData.str)) = 1 := by simp [PyData.depth, strs_dep ns]
theorem strs_mxl' (ns : List Str) : mxl (.list (ns.map PyData.str)) = ns.length := by simp [mxl, strs_mxl]
theorem at_lastS {ls : List Str} {l : Str} (h : ls[ls.length - 1]? = some l) : atI (ls.map V.str) (-1) = some (.str l) ∧ ixN (ls.map V.str).length (-1) = some (ls.length - 1) := by
  have l0 : 0 < ls.length := by
    obtain ⟨q, _⟩ := List.getElem?_eq_some_iff.mp h
    omega
  have ix : ixN (ls.map V.str).length (-1) = some (ls.length - 1) := by
    unfold ixN
    rw [List.length_map, if_neg (by decide), if_pos (by omega)]
    congr 1
    omega
  refine ⟨?_, ix⟩
  unfold atI
  rw [ix]
  show (ls.map V.str)[ls.length - 1]? = _
  rw [List.getElem?_map, h]
  rfl
theorem last_none {ls : List Str} (h : ls[ls.length - 1]? = none) : ls = [] := by
  cases ls with
  | nil => rfl
  | cons a r => simp at h
theorem empty_of_last {ls : List Str} {l : Str} (h : ls[ls.length - 1]? = some l) : (ls.map V.str).isEmpty = false := by
  cases ls with
  | nil => simp at h
  | cons a r => rfl
theorem DrawAt.updNew {H H' : Hp} {a l : Addr} (D : DrawAt H a) (n : H l = none) (s : Same H H') (o : HO) : DrawAt (upd H' l o) a := by
  obtain ⟨l0, ns, i, left, seed, m, h1, h2, r⟩ := D
  exact ⟨l0, ns, i, left, seed, m, by rw [upd_ne (ne_of_none h1 n)]; exact s _ _ h1, by rw [upd_ne (ne_of_none h2 n)]; exact s _ _ h2, r⟩
theorem Ext.draw {a : Addr} {H H' : Hp} (e : Ext a H H') : DrawAt H' a := e.1
theorem ints_atL {xs : List Int} {r : Int} (h0 : 0 ≤ r) (h1 : r < (xs.length : Int)) : ∃ n, n ∈ xs ∧ atI (xs.map V.int) r = some (.int n) := by
  have hk : r.toNat < xs.length := by omega
  refine ⟨xs[r.toNat], List.getElem_mem hk, at_of (j := r.toNat) (by omega) ?_⟩
  rw [List.getElem?_map, List.getElem?_eq_getElem hk]
  rfl
theorem join_len (ys : List Str) (h : ∀ y ∈ ys, y.length = 1) : (Txt.join "" ys).length = ys.length := PySem.W.KT.join_ones ys h
end Gs

set_option Elab.async false
set_option linter.all false
set_option maxRecDepth 100000
set_option maxHeartbeats 4000000
namespace Gs
open PySem L2
/-! ### a text so many times -/
theorem op_mul_str {X : Cx} : OpR X (binaryOp .Mult) (fun x y H Q => ∃ z n, x = .str z ∧ y = .int n ∧ MulOk z n ∧ Q (.str (Txt.mul z n)) H) := by
  intro pins s σ H x y v u Q I rx ry h
  obtain ⟨z, n, rfl, rfl, hz, q⟩ := h
  obtain ⟨t, rfl⟩ := rx
  obtain ⟨t', rfl⟩ := ry
  exact PySem.SB.mul hz (fun t' tk => ⟨.str _, H, I.tok _, ⟨_, rfl⟩, q⟩)
theorem b1 : (" " : Str).length = 1 := by decide +kernel
theorem mulOk_blank {n : Int} (h0 : -1000000 ≤ n) (h1 : n ≤ 1000000) : MulOk " " n := by
  refine ⟨?_, fun hn _ => ?_, fun hn _ => ?_⟩
  · rw [decide_eq_false (by omega), decide_eq_false (by omega)]
    rfl
  · rw [b1]
    have : 1 ≤ ((2 : Int) ^ 63 - 1) / n := Int.le_ediv_of_mul_le (by omega) (by omega)
    omega
  · rw [b1]
    unfold Builtin.Str.tooLong
    refine decide_eq_false ?_
    have : sizeLine = 16777216 := by decide
    omega
theorem foldl_blank : ∀ (k : Nat) (acc : Array Nat), (List.replicate k (#[32] : Array Nat)).foldl (· ++ ·) acc = acc ++ (List.replicate k 32).toArray
  | 0, acc => by simp
  | k + 1, acc => by
    rw [List.replicate_succ, List.foldl_cons, foldl_blank k]
    rw [List.replicate_succ, Array.append_assoc]
    congr 1
    apply Array.toList_inj.mp
    simp
theorem mul_blank (n : Int) : Txt.mul " " n = ⟨(List.replicate n.toNat 32).toArray⟩ := by
  unfold Txt.mul
  split
  · rename_i h
    rw [show n.toNat = 0 by omega]
    rfl
  · split
    · rename_i h1 h2
      rw [b1] at h2
      have : n = 1 := by simpa using h2
      subst this
      rfl
    · have e : (" " : Str).cps = #[32] := by decide +kernel
      rw [e, foldl_blank]
      simp
theorem str_ext {a b : Str} (h : a.cps.toList = b.cps.toList) : a = b := by
  cases a
  cases b
  simp only [Str.mk.injEq]
  exact Array.toList_inj.mp h
theorem len_toList (a : Str) : a.cps.toList.length = a.length := by rw [Array.length_toList]; rfl
theorem mul_len {n : Int} (h : 0 ≤ n) : ((Txt.mul " " n).length : Int) = n := by
  rw [mul_blank, ← len_toList]
  simp only [List.toList_toArray, List.length_replicate]
  omega
/-! ### a line in its box -/
def leadM (n : Int) (s : Str) : Int := if s = "left" ∨ s = "top" then 0 else if s = "middle" then n / 2 else n
theorem lead_bd {n : Int} {s : Str} (h : 0 ≤ n) : 0 ≤ leadM n s ∧ leadM n s ≤ n := by
  unfold leadM
  split
  · omega
  · split <;> omega
theorem lead_bd2 {n : Int} {s : Str} : leadM n s ≤ (if 0 ≤ n then n else 0) ∧ (if n ≤ 0 then n else 0) ≤ leadM n s := by
  unfold leadM
  split
  · split <;> split <;> omega
  · split
    · split <;> split <;> omega
    · split <;> split <;> omega
def lineM (ls : List Str) (r hi : Int) (h : Str) : Str := if 0 ≤ r - leadM (hi - ls.length) h ∧ r - leadM (hi - ls.length) h < ls.length then ls.getD (r - leadM (hi - ls.length) h).toNat "" else ""
def spreadM (line : Str) (w : Int) (s : Str) : Str := Txt.ljust (Txt.mul " " (leadM (w - line.length) s) ++ line) w
theorem spread_eq {line : Str} {w : Int} {s : Str} (h : (line.length : Int) ≤ w) : spreadM line w s = Txt.mul " " (leadM (w - line.length) s) ++ line ++ Txt.mul " " (w - line.length - leadM (w - line.length) s) := by
  have b := lead_bd (n := w - line.length) (s := s) (by omega)
  unfold spreadM
  generalize leadM (w - line.length) s = k at b
  have lx : ((Txt.mul " " k ++ line).length : Int) = k + line.length := by
    rw [PySem.Str.length_append]
    have := mul_len b.1
    omega
  unfold Txt.ljust
  split
  · have e : w - line.length - k = 0 := by omega
    rw [e]
    refine str_ext ?_
    rw [app_toList (Txt.mul " " k ++ line), mul_blank 0]
    simp
  · refine str_ext ?_
    rw [app_toList (Txt.mul " " k ++ line), mul_blank (w - line.length - k)]
    unfold Builtin.Str.padded
    have : w.toNat - (Txt.mul " " k ++ line).length = (w - line.length - k).toNat := by omega
    rw [this]
    simp
theorem cut_wide {x : Str} {a b : Int} (h0 : 0 ≤ a) (h : a ≤ b) : ((cutS x (some a) (some b)).length : Int) ≤ b - a := by
  rw [← len_toList]
  unfold cutS
  simp only [List.toList_toArray, List.length_take, List.length_drop, Array.length_toList]
  have e1 : HT.sIx x.length 0 (some a) = min a.toNat x.length := by
    show (if a < 0 then (a + (x.length : Int)).toNat else min a.toNat x.length) = _
    rw [if_neg (by omega)]
  have e2 : HT.sIx x.length x.length (some b) = min b.toNat x.length := by
    show (if b < 0 then (b + (x.length : Int)).toNat else min b.toNat x.length) = _
    rw [if_neg (by omega)]
  rw [e1, e2]
  omega
theorem cut_wide0 {x : Str} {b : Int} (h : 0 ≤ b) : ((cutS x none (some b)).length : Int) ≤ b := by
  rw [← len_toList]
  unfold cutS
  simp only [List.toList_toArray, List.length_take, List.length_drop, Array.length_toList]
  have e1 : HT.sIx x.length 0 none = 0 := rfl
  have e2 : HT.sIx x.length x.length (some b) = min b.toNat x.length := by
    show (if b < 0 then (b + (x.length : Int)).toNat else min b.toNat x.length) = _
    rw [if_neg (by omega)]
  rw [e1, e2]
  omega
theorem pc_wide {w : Int} {x y : Str} (hw : 1 ≤ w) (h : y ∈ pcM w x) : (y.length : Int) ≤ w := by
  unfold pcM at h
  obtain ⟨i, _, e⟩ := List.mem_map.mp h
  rw [← e]
  have h0 : 0 ≤ (i : Int) * w := Int.mul_nonneg (by omega) (by omega)
  have := cut_wide (x := x) (a := 0 + (i : Int) * w) (b := 0 + (i : Int) * w + w) (by omega) (by omega)
  omega
theorem step_wide {w : Int} {ls : List Str} {x : Str} (hw : 1 ≤ w) (hl : ∀ l ∈ ls, (l.length : Int) ≤ w) : ∀ y ∈ stepM w ls x, (y.length : Int) ≤ w := fun y h => by
  have pcs : y ∈ ls ++ pcM w x → (y.length : Int) ≤ w := fun q => by
    rcases List.mem_append.mp q with q | q
    · exact hl y q
    · exact pc_wide hw q
  unfold stepM at h
  split at h
  · split at h
    · rename_i l e c
      rcases List.mem_or_eq_of_mem_set h with q | q
      · exact hl y q
      · rw [q, PySem.Str.length_append, PySem.Str.length_append, b1]
        omega
    · exact pcs h
  · exact pcs h
theorem lines_wide {w : Int} (hw : 1 ≤ w) : ∀ (ws : List Str) (acc : List Str), (∀ l ∈ acc, (l.length : Int) ≤ w) → ∀ y ∈ ws.foldl (stepM w) acc, (y.length : Int) ≤ w
  | [], acc, hl, y, h => hl y h
  | x :: r, acc, hl, y, h => lines_wide hw r (stepM w acc x) (step_wide hw hl) y h
theorem set_wide {t : Str} {w : Int} {b : Bool} (hw : 1 ≤ w) : ∀ y ∈ setM t w b, (y.length : Int) ≤ w := by
  unfold setM
  split
  · exact lines_wide hw (wordsM t) [] (fun l hl => nomatch hl)
  · intro y hy
    rw [List.mem_singleton.mp hy]
    exact cut_wide0 (by omega)
theorem line_of {ls : List Str} {r hi : Int} {h : Str} : lineM ls r hi h ∈ ls ∨ lineM ls r hi h = "" := by
  unfold lineM
  split
  · rename_i c
    have hk : (r - leadM (hi - ls.length) h).toNat < ls.length := by omega
    refine .inl ?_
    rw [List.getD_eq_getElem?_getD, List.getElem?_eq_getElem hk]
    exact List.getElem_mem hk
  · exact .inr rfl
def laidM (t : Str) (high wide : Int) (s h : Str) (b : Bool) : List Str := (List.range high.toNat).map fun (r : Nat) => spreadM (lineM (setM t wide b) (0 + (r : Int)) high h) wide s
theorem spread_len {line : Str} {w : Int} {s : Str} (h : (line.length : Int) ≤ w) : ((spreadM line w s).length : Int) = w := by
  have b := lead_bd (n := w - line.length) (s := s) (by omega)
  rw [spread_eq h, PySem.Str.length_append, PySem.Str.length_append]
  have h1 := mul_len b.1
  have h2 := mul_len (n := w - line.length - leadM (w - line.length) s) (by omega)
  omega
def goodL (s h : Str) : Prop := (s = "left" ∨ s = "middle" ∨ s = "right") ∧ (h = "top" ∨ h = "middle" ∨ h = "bottom")
def good5 (s : Str) : Prop := s = "left" ∨ s = "middle" ∨ s = "right" ∨ s = "top" ∨ s = "bottom"
theorem goodL.s5 {s h : Str} (g : goodL s h) : good5 s := by rcases g.1 with e | e | e <;> simp [good5, e]
theorem goodL.h5 {s h : Str} (g : goodL s h) : good5 h := by rcases g.2 with e | e | e <;> simp [good5, e]
theorem inV_two (s a b : Str) : inV (.str s) [.str a, .str b] = decide (s = a ∨ s = b) := by
  have e : inV (.str s) [.str a, .str b] = ((a == s) || ((b == s) || false)) := rfl
  rw [e]
  by_cases h1 : a = s
  · rw [decide_eq_true (.inl h1.symm), beq_iff_eq.mpr h1]
    rfl
  · by_cases h2 : b = s
    · rw [decide_eq_true (.inr h2.symm), beq_iff_eq.mpr h2]
      simp
    · rw [decide_eq_false (by rintro (z | z); exact h1 z.symm; exact h2 z.symm), beq_eq_false_iff_ne.mpr h1, beq_eq_false_iff_ne.mpr h2]
      rfl
theorem inV_three (s a b c : Str) : inV (.str s) [.str a, .str b, .str c] = decide (s = a ∨ s = b ∨ s = c) := by
  have e : inV (.str s) [.str a, .str b, .str c] = ((a == s) || ((b == s) || ((c == s) || false))) := rfl
  rw [e, Bool.eq_iff_iff]
  simp only [Bool.or_eq_true, beq_iff_eq, decide_eq_true_eq, Bool.or_false]
  constructor
  · rintro (h | h | h)
    · exact .inl h.symm
    · exact .inr (.inl h.symm)
    · exact .inr (.inr h.symm)
  · rintro (h | h | h)
    · exact .inl h.symm
    · exact .inr (.inl h.symm)
    · exact .inr (.inr h.symm)
def spLead : Sp := fun vs H Q _ => ∃ (n : Int) (s : Str), vs = [.int n, .str s] ∧ ∀ H', Same H H' → Q (.int (leadM n s)) H'
def spStart : Sp := fun vs H Q _ => ∃ (n : Int) (s : Str), vs = [.int n, .str s] ∧ good5 s ∧ ∀ H', Same H H' → Q (.int (leadM n s)) H'
def spLineOn : Sp := fun vs H Q _ => ∃ (l : Addr) (ls : List Str) (r hi : Int) (h : Str), vs = [.ref l, .int r, .int hi, .str h] ∧ H l = some (.lst (ls.map V.str)) ∧ ∀ H', Same H H' → Q (.str (lineM ls r hi h)) H'
def spSpread : Sp := fun vs H Q _ => ∃ (x : Str) (w : Int) (s : Str), vs = [.str x, .int w, .str s] ∧ x.length ≤ 4000 ∧ 1 ≤ w ∧ w ≤ 100000 ∧ ∀ H', Same H H' → Q (.str (spreadM x w s)) H'
def spLookC (cL : Addr) : Sp := fun vs H Q E => ∃ s h : Str, vs = [.str s, .str h] ∧ s.length ≤ 100 ∧ h.length ≤ 100 ∧ (goodL s h → Q .non H) ∧ (¬ goodL s h → E (.ref cL) none H)
def spLaid (cS cL : Addr) : Sp := fun vs H Q E => ∃ (t : Str) (high wide : Int) (s h : Str) (b : Bool), vs = [.str t, .int high, .int wide, .str s, .str h, .bl b] ∧ t.length ≤ 60 ∧ Sm high ∧ Sm wide ∧ high ≤ 1000 ∧ wide ≤ 100000 ∧ s.length ≤ 100 ∧ h.length ≤ 100 ∧
  (1 ≤ high → 1 ≤ wide → goodL s h → ∀ (l : Addr) (H' : Hp), Same H H' → H' l = some (.lst ((laidM t high wide s h b).map V.str)) → Q (.ref l) H') ∧ (¬ (1 ≤ high ∧ 1 ≤ wide) → E (.ref cS) none H) ∧ (1 ≤ high → 1 ≤ wide → ¬ goodL s h → E (.ref cL) none H)
def spSetD : Sp := fun vs H Q _ => ∃ (t : Str) (high wide : Int) (k : Addr) (s h : Str) (b : Bool), vs = [.str t, .int high, .int wide, .ref k] ∧ H k = some (.tup [.str s, .str h, .bl b]) ∧ goodL s h ∧ t.length ≤ 60 ∧ OkS t ∧ 1 ≤ high ∧ high ≤ 1000 ∧ 1 ≤ wide ∧ wide ≤ 100000 ∧
  ∀ (l : Addr) (H' : Hp), Same H H' → H' l = some (.lst ((laidM t high wide s h b).map V.str)) → Q (.ref l) H'
def spTold13 : Sp := fun vs H Q _ => ∃ (t : Str) (high wide : Int) (k : Addr) (s h : Str) (b : Bool), vs = [.str t, .int high, .int wide, .ref k] ∧ H k = some (.tup [.str s, .str h, .bl b]) ∧ t.length ≤ 60 ∧ Sm high ∧ Sm wide ∧ high ≤ 1000 ∧ wide ≤ 100000 ∧ s.length ≤ 100 ∧ h.length ≤ 100 ∧
  (1 ≤ high → 1 ≤ wide → goodL s h → ∀ (l : Addr) (H' : Hp), Same H H' → H' l = some (.lst ((laidM t high wide s h b).map V.str)) → Q (.ref l) H') ∧
  (¬ (1 ≤ high ∧ 1 ≤ wide) → ∀ (l : Addr) (H' : Hp), Same H H' → H' l = some (.lst [.bl true, .bl false]) → Q (.ref l) H') ∧
  (1 ≤ high → 1 ≤ wide → ¬ goodL s h → ∀ (l : Addr) (H' : Hp), Same H H' → H' l = some (.lst [.bl false, .bl true]) → Q (.ref l) H')
def spLookD : Sp := fun vs H Q _ => ∃ a l : Addr, vs = [.ref a] ∧ DrawL H a l ∧ ∀ (t : Addr) (s h : Str) (b : Bool) (H' : Hp), goodL s h → ExtL a l H H' → H' t = some (.tup [.str s, .str h, .bl b]) → Q (.ref t) H'
end Gs
namespace Gs
open PySem L2
theorem bools_dp {K : PySem.W.Frag} {H : Hp} : ∀ ns : List Bool, DpAll K H (ns.map V.bl) (ns.map PyData.bool)
  | [] => .nil
  | _ :: r => .cons (.bl _) (bools_dp r)
theorem bools_lay : ∀ ns : List Bool, PyData.canLayAll0 (ns.map PyData.bool) = true ∧ PyData.depthAll (ns.map PyData.bool) = 0
  | [] => by simp [PyData.canLayAll0, PyData.depthAll]
  | c :: r => by
    obtain ⟨h1, h2⟩ := bools_lay r
    constructor
    · simp [PyData.canLay0, PyData.canLayAll0] at h1 ⊢
      exact h1
    · simp only [List.map_cons, PyData.depthAll, PyData.depth]
      omega
theorem bools_shaped (ns : List Bool) : SeqAt.shaped (.list (ns.map PyData.bool)) = true := by
  obtain ⟨h1, h2⟩ := bools_lay ns
  unfold SeqAt.shaped
  rw [Bool.and_eq_true]
  refine ⟨by simp only [PyData.canLay0]; exact h1, decide_eq_true ?_⟩
  simp only [PyData.depth]
  omega
theorem bools_nil (cs : List Bool) : PyData.eqv (.list (cs.map PyData.bool)) (.list []) = cs.isEmpty := by
  cases cs with
  | nil => simp [PyData.eqv, PyData.eqvAll]
  | cons c r => simp [PyData.eqv, PyData.eqvAll]
theorem bools_mxl : ∀ ns : List Bool, mxlAll (ns.map PyData.bool) = 0
  | [] => by simp [mxlAll]
  | c :: r => by simp [mxlAll, mxl, bools_mxl r]
theorem bools_depth (ns : List Bool) : PyData.depth (.list (ns.map PyData.bool)) = 1 := by simp [PyData.depth, (bools_lay ns).2]
theorem bools_mxl' (ns : List Bool) : mxl (.list (ns.map PyData.bool)) = ns.length := by simp [mxl, bools_mxl]
theorem Vals.rev : ∀ {vs : List V} {us : List Value}, Vals vs us → Vals vs.reverse us.reverse
  | _, _, .nil => .nil
  | _, _, .cons a r => by
    rw [List.reverse_cons, List.reverse_cons]
    exact Vals.append (Vals.rev r) (.cons a .nil)
def gW {α : Type} (vs mv ws : List α) : List α := match vs, mv, ws with
  | [t], [wr], [wi, hi, he, si] => [t, hi, wi, si, he, wr]
  | _, _, _ => []
theorem gW_rel : ∀ {vs mz zs : List V} {us mv ws : List Value}, Vals vs us → Vals mz mv → Vals zs ws → Vals (gW vs mz zs) (gW us mv ws) := by
  intro vs mz zs us mv ws h1 h2 h3
  rcases h1 with _ | ⟨a, _ | ⟨b, r⟩⟩ <;> rcases h2 with _ | ⟨a2, _ | ⟨b2, r2⟩⟩ <;> rcases h3 with _ | ⟨c1, _ | ⟨c2, _ | ⟨c3, _ | ⟨c4, _ | ⟨c5, r5⟩⟩⟩⟩⟩ <;> first | exact .nil | exact .cons a (.cons c2 (.cons c1 (.cons c4 (.cons c3 (.cons a2 .nil)))))
theorem laid_len {t : Str} {high wide : Int} {s h : Str} {b : Bool} : (laidM t high wide s h b).length = high.toNat := by
  unfold laidM
  rw [List.length_map, List.length_range]
def sideG (s : Str) : Prop := s = "left" ∨ s = "middle" ∨ s = "right"
def highG (h : Str) : Prop := h = "top" ∨ h = "middle" ∨ h = "bottom"
theorem odd_sides {r : Int} (h0 : 0 ≤ r) (h1 : r < 4) : ∃ z : Str, atI [V.str "top", .str "", .str "Left", .str "bottom"] r = some (.str z) ∧ z.length ≤ 100 ∧ ¬ sideG z := by
  have : r = 0 ∨ r = 1 ∨ r = 2 ∨ r = 3 := by omega
  unfold sideG
  rcases this with rfl | rfl | rfl | rfl
  · exact ⟨_, atI_nat (j := 0) rfl, by decide +kernel, by decide +kernel⟩
  · exact ⟨_, atI_nat (j := 1) rfl, by decide +kernel, by decide +kernel⟩
  · exact ⟨_, atI_nat (j := 2) rfl, by decide +kernel, by decide +kernel⟩
  · exact ⟨_, atI_nat (j := 3) rfl, by decide +kernel, by decide +kernel⟩
theorem odd_highs {r : Int} (h0 : 0 ≤ r) (h1 : r < 4) : ∃ z : Str, atI [V.str "left", .str "", .str "Top", .str "right"] r = some (.str z) ∧ z.length ≤ 100 ∧ ¬ highG z := by
  have : r = 0 ∨ r = 1 ∨ r = 2 ∨ r = 3 := by omega
  unfold highG
  rcases this with rfl | rfl | rfl | rfl
  · exact ⟨_, atI_nat (j := 0) rfl, by decide +kernel, by decide +kernel⟩
  · exact ⟨_, atI_nat (j := 1) rfl, by decide +kernel, by decide +kernel⟩
  · exact ⟨_, atI_nat (j := 2) rfl, by decide +kernel, by decide +kernel⟩
  · exact ⟨_, atI_nat (j := 3) rfl, by decide +kernel, by decide +kernel⟩
theorem good_len {s h : Str} (g : goodL s h) : s.length ≤ 100 ∧ h.length ≤ 100 := by
  obtain ⟨g1, g2⟩ := g
  constructor
  · rcases g1 with rfl | rfl | rfl <;> decide +kernel
  · rcases g2 with rfl | rfl | rfl <;> decide +kernel
end Gs

set_option Elab.async false
set_option linter.all false
set_option maxRecDepth 100000
set_option maxHeartbeats 4000000
namespace K13
open PySem L2 Gs
def top (i : Nat) : Stmt := PySem.Challenge.pw_gridscope_k13_texts_laid_in_boxes.main.body.getD i (.Pass ⟨0, 0, 0, 0⟩)
structure Tx (K : PySem.W.Frag) (mg : Str → Option Value) (cS cL cG aI aJ : Addr) (tB : Tok) : Prop where
  no_max : mg "max" = none
  no_min : mg "min" = none
  no_len : mg "len" = none
  no_list : mg "list" = none
  no_isinstance : mg "isinstance" = none
  no_bool : mg "bool" = none
  no_int : mg "int" = none
  no_str : mg "str" = none
  no_tuple : mg "tuple" = none
  no_range : mg "range" = none
  no_all : mg "all" = none
  no_sum : mg "sum" = none
  no_sorted : mg "sorted" = none
  no_any : mg "any" = none
  no_dict : mg "dict" = none
  no_repr : mg "repr" = none
  x_BadSize : ExcOk K mg "BadSize" cS veL "ValueError.__new__"
  x_BadLook : ExcOk K mg "BadLook" cL veL "ValueError.__new__"
  x_GridError : ExcOk K mg "GridError" cG veL "ValueError.__new__"
  mg_BLANK : mg "BLANK" = some (.str " " tB)
  mg_SIDES : mg "SIDES" = some (.ref aI)
  sq_SIDES : ∀ H : Hp, SqT K H aI [.str "left", .str "middle", .str "right"]
  mg_HEIGHTS : mg "HEIGHTS" = some (.ref aJ)
  sq_HEIGHTS : ∀ H : Hp, SqT K H aJ [.str "top", .str "middle", .str "bottom"]
  eS : ExcC K cS
  eL : ExcC K cL
  sg : PySem.W.subIn K (.ref cS) (.ref cG) = some true
  lg : PySem.W.subIn K (.ref cL) (.ref cG) = some true
  sl : PySem.W.subIn K (.ref cS) (.ref cL) = some false
  ls : PySem.W.subIn K (.ref cL) (.ref cS) = some false
section
variable {P : Program} {w : World} {K : PySem.W.Frag} {mg : Str → Option Value} {base : Heap} {f : Addr} {fd : FuncData} {cS cL cG aI aJ : Addr} {tB : Tok}
abbrev s_check_wide : Stmt := top 8
theorem sc_check_wide : FnScope ["wide"] ["wide"] (defScope s_check_wide) := ⟨rfl, rfl, rfl, by decide +kernel, rfl, by decide +kernel, by decide +kernel⟩
theorem ok_wide (F : Fun K "check_wide" "check_wide" s_check_wide f fd) (T : Tx K mg cS cL cG aI aJ tB)  : FnOk P w K mg base (L2.CX P w) 1 f fd ["wide"] (spWide cS) := by
  refine F.okX sc_check_wide (fun vs H Q E h => ?_) (fun cdv A outer s H vs Q E hr h => ?_)
  · obtain ⟨i, rfl, _⟩ := h
    rfl
  · obtain ⟨i, rfl, hi, k1, k2⟩ := h
    refine ⟨_, (pss_one (ps_if (pt_cmpR op_lt (pv 0) pe_int (nomark _)) (pss_one (ps_raise rfl (takes_of rfl rfl rfl rfl) (SkE.pmk_own1 PySem.F.excBase_ValueError T.x_BadSize.ex T.x_BadSize.g T.x_BadSize.kp (raises_own T.x_BadSize.b T.x_BadSize.t) (by rfl) (pe_joined (.cons (pe_fmt (pv 0)) (.cons pe_str .nil)))))) pss_nil)), ?_⟩
    refine ⟨_, rfl, _, _, rfl, rfl, _, rfl, ?_⟩
    refine ite2 (fun c => ?_) (fun c => ?_)
    · have c' : i < 1 := of_decide_eq_true c
      have l1 := hi.len
      refine ⟨_, rfl, .inr ⟨_, rfl, hi.log, _, rfl, ?_, _, rfl, ?_, k2 c'⟩⟩
      · exact small (by rw [PySem.Str.length_append]; show 0 + _ ≤ 1000; omega)
      · exact small (by rw [PySem.Str.length_append, PySem.Str.length_append]; show 0 + _ + 21 ≤ 1000; omega)
    · have c' : ¬ i < 1 := fun q => c (decide_eq_true q)
      exact k1 (by omega)
abbrev s_words : Stmt := top 10
theorem sc_words : FnScope ["text", "word"] ["text"] (defScope s_words) := ⟨rfl, rfl, rfl, by decide +kernel, rfl, by decide +kernel, by decide +kernel⟩
theorem ok_words (F : Fun K "words" "words" s_words f fd) (T : Tx K mg cS cL cG aI aJ tB)  : FnOk P w K mg base CX0 1 f fd ["text"] spWords := by
  refine F.ok sc_words (fun vs H Q E h => ?_) (fun cdv A outer s H vs Q E hr h => ?_)
  · obtain ⟨t, rfl, _⟩ := h
    rfl
  · obtain ⟨t, rfl, ht, k⟩ := h
    refine ⟨_, (pss_one (ps_ret (pe_lc (own := [("word", 1)]) (g := gName 1) rfl sc_words.nd (pi_list (pe_bm PySem.F.plainAttrs_str PySem.F.slot_str_split PySem.F.type_str_split mt_split (pv 0) (pa_cons (glS (by rfl) T.mg_BLANK) pa_nil))) (blkOk_by (N := ["text", "word"]) (sc := defScope s_words) (by decide +kernel)) (fun _ _ _ _ _ => (pg_name (i := 1) sc_words.nd rfl (Or.inl rfl))) (fun _ _ _ _ _ => (pts_one (pt_cmpR op_ne (pv 1) pe_str (nomark _)))) (fun _ _ _ _ _ => (pv 1))))), ?_⟩
    refine ⟨_, rfl, rfl, t, " ", rfl, rfl, by decide +kernel, small (by omega), fun l1 n1 => ?_⟩
    have s1 := same_new n1 (.lst ((Txt.split t " ").map V.str))
    have e1 : upd H l1 (.lst ((Txt.split t " ").map V.str)) l1 = some (.lst ((Txt.split t " ").map V.str)) := upd_same
    generalize upd H l1 (.lst ((Txt.split t " ").map V.str)) = H1 at s1 e1 ⊢
    refine ⟨l1, rfl, ⟨_, SqL.of e1⟩, fun D hD => ?_⟩
    have sl := split_len t " "
    refine lc_list (K := K) (a := l1) (xs := (Txt.split t " ").map V.str) (fun j H2 => Same H1 H2 ∧ H2 D = some (.lst ((((Txt.split t " ").take j).filter fun w => decide (0 < w.length)).map V.str))) ⟨same_new hD _, upd_same⟩ (fun j H2 _ q => SqL.of (q.1 _ _ e1)) ?_ ?_
    · rintro j y H2 hy ⟨s2, e2⟩
      rw [List.getElem?_map] at hy
      cases hj : (Txt.split t " ")[j]? with
      | none => rw [hj] at hy; cases hy
      | some x =>
        rw [hj] at hy
        have hy' : V.str x = y := Option.some.inj hy
        subst hy'
        have xl := split_mem (List.mem_of_getElem? hj)
        refine ⟨rfl, ?_⟩
        refine ⟨_, rfl, rfl, _, rfl, ?_⟩
        rw [str_ne]
        refine ite2 (fun q => ?_) (fun q => ?_)
        · refine ⟨_, rfl, _, e2, ?_, ?_, ?_⟩
          · refine Nat.lt_of_le_of_lt ?_ (show 1000 < sizeLine by decide)
            rw [List.length_map]
            exact Nat.le_trans (List.length_filter_le _ _) (Nat.le_trans (List.length_take_le' _ _) (by omega))
          · intro b' o' z'
            rw [upd_ne (ne_of_none z' hD)]
            exact s2 _ _ z'
          · rw [upd_same, take_filter1 _ _ hj, if_pos q, List.map_append]
            rfl
        · refine ⟨s2, ?_⟩
          rw [take_filter1 _ _ hj, if_neg q, List.append_nil]
          exact e2
    rintro H2 ⟨s2, e2⟩
    rw [List.length_map, List.take_length] at e2
    exact k D H2 (s1.free hD) (s1.trans s2) e2
abbrev s_pieces : Stmt := top 11
theorem sc_pieces : FnScope ["word", "wide", "first"] ["word", "wide"] (defScope s_pieces) := ⟨rfl, rfl, rfl, by decide +kernel, rfl, by decide +kernel, by decide +kernel⟩
theorem ok_pieces (F : Fun K "pieces" "pieces" s_pieces f fd) (T : Tx K mg cS cL cG aI aJ tB)  : FnOk P w K mg base CX0 1 f fd ["word", "wide"] spPcs := by
  refine F.ok sc_pieces (fun vs H Q E h => ?_) (fun cdv A outer s H vs Q E hr h => ?_)
  · obtain ⟨x, w, rfl, _⟩ := h
    rfl
  · obtain ⟨x, w, rfl, hx, w1, w2, k⟩ := h
    refine ⟨_, (pss_one (ps_ret (pe_lc (own := [("first", 2)]) (g := gName 2) rfl sc_pieces.nd (pi_range3 (by rfl) T.no_range (pa_cons pe_int (pa_cons (pe_callB call_len_str (by rfl) T.no_len (by decide +kernel) (pa_cons (pv 0) pa_nil)) (pa_cons (pv 1) pa_nil)))) (blkOk_by (N := ["word", "wide", "first"]) (sc := defScope s_pieces) (by decide +kernel)) (fun _ _ _ _ _ => (pg_name (i := 2) sc_pieces.nd rfl (Or.inl rfl))) (fun _ _ _ _ _ => pts_nil) (fun _ _ _ _ _ => (pe_slice sl_str (pv 0) (po_some (pv 2)) (po_some (pe_op op_add (pv 2) (pv 1)))))))), ?_⟩
    refine ⟨_, rfl, _, rfl, small (by omega), _, rfl, _, _, _, _, rfl, RgC.up (by omega) (by omega) w1 w2, fun D hD => ?_⟩
    refine lc_it walk_rangeC (fun j H2 => Same H H2 ∧ H2 D = some (.lst (((List.range j).map fun (i : Nat) => cutS x (some (0 + (i : Nat) * w)) (some (0 + (i : Nat) * w + w))).map V.str))) ⟨same_new hD _, upd_same⟩ (fun j H2 _ q => trivial) ?_ ?_
    · rintro j y H2 H2' hj ⟨s2, e2⟩ ⟨rfl, rfl⟩
      have hj' : j < x.length := Nat.lt_of_lt_of_le hj (np_le w x)
      refine ⟨rfl, ?_⟩
      unfold tYes
      refine ifT rfl ?_
      refine ⟨_, rfl, _, rfl, _, rfl, _, rfl, _, rfl, _, _, rfl, rfl, _, rfl, _, rfl, small (by omega), _, e2, ?_, ?_, ?_⟩
      · refine Nat.lt_of_le_of_lt ?_ (show 1000 < sizeLine by decide)
        rw [List.length_map, List.length_map, List.length_range]
        omega
      · intro b' o' z'
        rw [upd_ne (ne_of_none z' hD)]
        exact s2 _ _ z'
      · rw [upd_same, List.range_succ, List.map_append, List.map_append]
        rfl
    rintro H2 ⟨s2, e2⟩
    exact k D H2 hD s2 e2
abbrev s_set_lines : Stmt := top 12
theorem sc_set_lines : FnScope ["text", "wide", "wrap", "lines", "word"] ["text", "wide", "wrap"] (defScope s_set_lines) := ⟨rfl, rfl, rfl, by decide +kernel, rfl, by decide +kernel, by decide +kernel⟩
theorem ok_set_lines (F : Fun K "set_lines" "set_lines" s_set_lines f fd) (T : Tx K mg cS cL cG aI aJ tB) (D_check_wide : Dn P w K mg base (L2.CX P w) 1 "check_wide" ["wide"] (spWide cS)) (D_words : Dn P w K mg base CX0 1 "words" ["text"] spWords) (D_pieces : Dn P w K mg base CX0 1 "pieces" ["word", "wide"] spPcs) : FnOk P w K mg base (L2.CX P w) 2 f fd ["text", "wide", "wrap"] (spSetL cS) := by
  refine F.okX sc_set_lines (fun vs H Q E h => ?_) (fun cdv A outer s H vs Q E hr h => ?_)
  · obtain ⟨t, w, b, rfl, _⟩ := h
    rfl
  · obtain ⟨t, w, b, rfl, ht, sw, w2, k1, k2⟩ := h
    refine ⟨_, (pss_cons (ps_expr (pe_callD D_check_wide (hr.mono (by omega)) (by rfl) (passes_call (takes_of rfl rfl rfl rfl) (fun _ _ _ _ h => h)) (pa_cons (pv 1) pa_nil)))
      (pss_cons (ps_if (pt_not (pt_val (pv 2))) (pss_one (ps_ret (pe_lst (pa_cons (pe_slice sl_str (pv 0) po_none (po_some (pv 1))) pa_nil)))) pss_nil)
      (pss_cons (ps_set (i := 3) sc_set_lines.nd rfl (.inl rfl) (pe_lst pa_nil))
      (pss_cons (ps_for (passes_of rfl) rfl (pi_list (pe_callD D_words (hr.mono (by omega)) (by rfl) pass0 (pa_cons (pv 0) pa_nil))) (pg_name (i := 4) sc_set_lines.nd rfl (.inl rfl))
        (pss_one (ps_if (PW.pt (pw_and (pt_truth (pv 3) (fun _ => rfl)) (pw_and1 (pt_cmpR op_le (pe_op op_add (pe_op op_add (pe_callB call_len_str (by rfl) T.no_len (by decide +kernel) (pa_cons (pe_ix ix_list (pv 3) (pe_un un_neg pe_int) (fun _ _ => rfl)) pa_nil)) pe_int) (pe_callB call_len_str (by rfl) T.no_len (by decide +kernel) (pa_cons (pv 4) pa_nil))) (pv 1) (nomark _))))) (pss_one (ps_asg (pe_op op_add_str (pe_op op_add_str (pe_ix ix_list (pv 3) (pe_un un_neg pe_int) (fun _ _ => rfl)) (glS (by rfl) T.mg_BLANK)) (pv 4)) (pg_sub (pv 3) (pe_un un_neg pe_int) set_list))) (pss_one (ps_expr (pe_bm PySem.F.plainAttrs_list PySem.F.slot_list_extend PySem.F.type_list_extend mt_extend (pv 3) (pa_cons (pe_callD D_pieces (hr.mono (by omega)) (by rfl) pass0 (pa_cons (pv 4) (pa_cons (pv 1) pa_nil))) pa_nil)))))))
      (pss_one (ps_ret (pv 3))))))), ?_⟩
    refine ⟨_, rfl, w, rfl, sw, fun w1 => ?_, k2⟩
    refine ⟨_, rfl, _, rfl, ?_⟩
    refine ite2 (fun c => ?_) (fun c => ?_)
    · have eb : b = false := by cases b <;> simp_all
      subst eb
      refine ⟨_, rfl, _, rfl, _, rfl, _, rfl, small (by omega), (by show 1 ≤ sizeLine; decide), fun l hl => ?_⟩
      exact k1 w1 l _ hl (same_new hl _) upd_same
    · have eb : b = true := by cases b <;> simp_all
      subst eb
      refine ⟨(by show 0 ≤ sizeLine; decide), fun l nl => ?_⟩
      have s1 := same_new nl (.lst [])
      have e1 : upd H l (.lst []) l = some (.lst []) := upd_same
      generalize upd H l (.lst []) = H1 at s1 e1 ⊢
      refine ⟨_, rfl, t, rfl, ht, fun lw H2 nw s2 ew => ?_⟩
      have ll : l ≠ lw := ne_of_none e1 nw
      have wl := words_len t
      refine ⟨lw, rfl, ⟨_, SqL.of ew⟩, ?_⟩
      refine for_list (K := K) (a := lw) (xs := (wordsM t).map V.str) (fun j σ H' => Same H H' ∧ H' lw = some (.lst ((wordsM t).map V.str)) ∧ ∃ x4, σ = [some (.str t), some (.int w), some (.bl true), some (.ref l), x4] ∧ H' l = some (.lst ((linesM w ((wordsM t).take j)).map V.str))) ⟨s1.trans s2, ew, _, rfl, s2 _ _ e1⟩ (fun j σ H' _ q => SqL.of q.2.1) ?_ ?_
      · rintro j y σ H5 hy ⟨s5, ew5, x4, rfl, h5⟩
        rw [List.getElem?_map] at hy
        cases hj : (wordsM t)[j]? with
        | none => rw [hj] at hy; cases hy
        | some x =>
          rw [hj] at hy
          have hy' : V.str x = y := Option.some.inj hy
          subst hy'
          have xl := (words_mem (List.mem_of_getElem? hj)).1
          obtain ⟨jl, _⟩ := List.getElem?_eq_some_iff.mp hj
          have wm : ∀ z ∈ (wordsM t).take j, z.length ≤ 60 := fun z hz => Nat.le_trans (words_mem (List.mem_of_mem_take hz)).1 ht
          have tl : ((wordsM t).take j).length ≤ 62 := Nat.le_trans (List.length_take_le' _ _) (by omega)
          have l1 := lines_len (w := w) (B := 60) ((wordsM t).take j) [] wm
          have l2 := lines_mem (w := w) ((wordsM t).take j) [] 0 wm (fun l hl => nomatch hl)
          have l1' : (linesM w ((wordsM t).take j)).length ≤ 0 + 60 * ((wordsM t).take j).length := l1
          have l2' : ∀ y ∈ linesM w ((wordsM t).take j), y.length ≤ 0 + 61 * ((wordsM t).take j).length := l2
          obtain ⟨ls, els⟩ : ∃ ls, ls = linesM w ((wordsM t).take j) := ⟨_, rfl⟩
          rw [← els] at h5 l1' l2'
          clear l1 l2
          refine ⟨_, rfl, _, .inl ⟨_, SqL.of h5, rfl⟩, ?_⟩
          cases hls : ls[ls.length - 1]? with
          | none =>
            have e0 := last_none hls
            refine ifF (by rw [e0]; simp) ?_
            refine ifF (by simp) ?_
            refine ⟨_, rfl, .inl ⟨rfl, _, .inl (.inl h5)⟩, _, rfl, _, rfl, x, w, rfl, by omega, w1, w2, fun lp H6 np s6 e6 => ?_⟩
            have h6 := s6 _ _ h5
            refine ⟨l, lp, _, _, rfl, rfl, h6, e6, ?_, ?_⟩
            · rw [List.length_map, List.length_map]
              have := pc_len w x
              exact Nat.le_trans (by omega) (show 10000 ≤ sizeLine by decide)
            refine ⟨fun b o q => ?_, ?_, _, rfl, ?_⟩
            · rw [upd_ne (ne_of_none q nl)]
              exact s6 _ _ (s5 _ _ q)
            · rw [upd_ne ll.symm]
              exact s6 _ _ ew5
            · rw [upd_same, lines_snoc _ _ hj, ← els, ← List.map_append]
              unfold stepM
              rw [hls]
          | some last =>
            refine ifT (by rw [empty_of_last hls]; rfl) ?_
            obtain ⟨al, il⟩ := at_lastS hls
            have lb := l2' last (List.mem_of_getElem? hls)
            refine ⟨_, rfl, _, rfl, _, _, _, _, rfl, rfl, SqL.of h5, al, _, rfl, Nat.le_trans lb (Nat.le_trans (show _ ≤ 10000 by omega) (by decide)), _, _, rfl, rfl, _, rfl, _, rfl, small (by omega), _, _, rfl, rfl, _, rfl, _, _, rfl, rfl, _, rfl, ?_⟩
            refine ite2 (fun q => ?_) (fun q => ?_)
            · have q' : (last.length : Int) + 1 + x.length ≤ w := of_decide_eq_true q
              have b1 : (" " : Str).length = 1 := by decide +kernel
              refine ⟨_, rfl, _, rfl, _, _, _, _, rfl, rfl, SqL.of h5, al, _, _, rfl, rfl, Nat.le_trans (show _ ≤ 10000 by rw [b1]; omega) (by decide), _, rfl, _, _, rfl, rfl, Nat.le_trans (show _ ≤ 10000 by rw [PySem.Str.length_append, b1]; omega) (by decide), ?_⟩
              refine ⟨_, rfl, _, rfl, l, _, _, _, rfl, rfl, h5, il, ?_⟩
              refine ⟨fun b o q => ?_, ?_, _, rfl, ?_⟩
              · rw [upd_ne (ne_of_none q nl)]
                exact s5 _ _ q
              · rw [upd_ne ll.symm]
                exact ew5
              · rw [upd_same, lines_snoc _ _ hj, ← els, ← List.map_set]
                unfold stepM
                rw [hls]
                simp only [if_pos q']
            · have q' : ¬ (last.length : Int) + 1 + x.length ≤ w := fun z => q (decide_eq_true z)
              refine ⟨_, rfl, .inl ⟨rfl, _, .inl (.inl h5)⟩, _, rfl, _, rfl, x, w, rfl, by omega, w1, w2, fun lp H6 np s6 e6 => ?_⟩
              have h6 := s6 _ _ h5
              refine ⟨l, lp, _, _, rfl, rfl, h6, e6, ?_, ?_⟩
              · rw [List.length_map, List.length_map]
                have := pc_len w x
                exact Nat.le_trans (by omega) (show 10000 ≤ sizeLine by decide)
              refine ⟨fun b o q => ?_, ?_, _, rfl, ?_⟩
              · rw [upd_ne (ne_of_none q nl)]
                exact s6 _ _ (s5 _ _ q)
              · rw [upd_ne ll.symm]
                exact s6 _ _ ew5
              · rw [upd_same, lines_snoc _ _ hj, ← els, ← List.map_append]
                unfold stepM
                rw [hls]
                simp only [if_neg q']
      rintro σ H5 ⟨s5, ew5, x4, rfl, h5⟩
      rw [List.length_map, List.take_length] at h5
      exact ⟨_, rfl, k1 w1 l H5 nl s5 h5⟩
abbrev s_parts : Stmt := top 23
theorem sc_parts : FnScope ["_law_text_here", "_law_word"] ["_law_text_here"] (defScope s_parts) := ⟨rfl, rfl, rfl, by decide +kernel, rfl, by decide +kernel, by decide +kernel⟩
theorem ok_parts (F : Fun K "_law_parts" "_law_parts" s_parts f fd) (T : Tx K mg cS cL cG aI aJ tB)  : FnOk P w K mg base CX0 1 f fd ["_law_text_here"] spWords := by
  refine F.ok sc_parts (fun vs H Q E h => ?_) (fun cdv A outer s H vs Q E hr h => ?_)
  · obtain ⟨t, rfl, _⟩ := h
    rfl
  · obtain ⟨t, rfl, ht, k⟩ := h
    refine ⟨_, (pss_one (ps_ret (pe_lc (own := [("_law_word", 1)]) (g := gName 1) rfl sc_parts.nd (pi_list (pe_bm PySem.F.plainAttrs_str PySem.F.slot_str_split PySem.F.type_str_split mt_split (pv 0) (pa_cons pe_str pa_nil))) (blkOk_by (N := ["_law_text_here", "_law_word"]) (sc := defScope s_parts) (by decide +kernel)) (fun _ _ _ _ _ => (pg_name (i := 1) sc_parts.nd rfl (Or.inl rfl))) (fun _ _ _ _ _ => (pts_one (pt_cmpR op_gt (pe_callB call_len_str (by rfl) T.no_len (by decide +kernel) (pa_cons (pv 1) pa_nil)) pe_int (nomark _)))) (fun _ _ _ _ _ => (pv 1))))), ?_⟩
    refine ⟨_, rfl, rfl, t, " ", rfl, rfl, by decide +kernel, small (by omega), fun l1 n1 => ?_⟩
    have s1 := same_new n1 (.lst ((Txt.split t " ").map V.str))
    have e1 : upd H l1 (.lst ((Txt.split t " ").map V.str)) l1 = some (.lst ((Txt.split t " ").map V.str)) := upd_same
    generalize upd H l1 (.lst ((Txt.split t " ").map V.str)) = H1 at s1 e1 ⊢
    refine ⟨l1, rfl, ⟨_, SqL.of e1⟩, fun D hD => ?_⟩
    have sl := split_len t " "
    refine lc_list (K := K) (a := l1) (xs := (Txt.split t " ").map V.str) (fun j H2 => Same H1 H2 ∧ H2 D = some (.lst ((((Txt.split t " ").take j).filter fun w => decide (0 < w.length)).map V.str))) ⟨same_new hD _, upd_same⟩ (fun j H2 _ q => SqL.of (q.1 _ _ e1)) ?_ ?_
    · rintro j y H2 hy ⟨s2, e2⟩
      rw [List.getElem?_map] at hy
      cases hj : (Txt.split t " ")[j]? with
      | none => rw [hj] at hy; cases hy
      | some x =>
        rw [hj] at hy
        have hy' : V.str x = y := Option.some.inj hy
        subst hy'
        have xl := split_mem (List.mem_of_getElem? hj)
        refine ⟨rfl, ?_⟩
        refine ⟨_, rfl, _, rfl, small (by omega), _, _, rfl, rfl, _, rfl, ?_⟩
        have eq : decide ((0 : Int) < (x.length : Int)) = decide (0 < x.length) := decide_eq_decide.mpr (by omega)
        show if decide ((0 : Int) < (x.length : Int)) = true then _ else _
        rw [eq]
        refine ite2 (fun q => ?_) (fun q => ?_)
        · refine ⟨_, rfl, _, e2, ?_, ?_, ?_⟩
          · refine Nat.lt_of_le_of_lt ?_ (show 1000 < sizeLine by decide)
            rw [List.length_map]
            exact Nat.le_trans (List.length_filter_le _ _) (Nat.le_trans (List.length_take_le' _ _) (by omega))
          · intro b' o' z'
            rw [upd_ne (ne_of_none z' hD)]
            exact s2 _ _ z'
          · rw [upd_same, take_filter1 _ _ hj, if_pos q, List.map_append]
            rfl
        · refine ⟨s2, ?_⟩
          rw [take_filter1 _ _ hj, if_neg q, List.append_nil]
          exact e2
    rintro H2 ⟨s2, e2⟩
    rw [List.length_map, List.take_length] at e2
    exact k D H2 (s1.free hD) (s1.trans s2) e2
abbrev s_lines : Stmt := top 24
theorem sc_lines : FnScope ["_law_text_here", "_law_room", "_law_broken", "_law_rows", "_law_word", "_law_at"] ["_law_text_here", "_law_room", "_law_broken"] (defScope s_lines) := ⟨rfl, rfl, rfl, by decide +kernel, rfl, by decide +kernel, by decide +kernel⟩
theorem ok_lines (F : Fun K "_law_lines" "_law_lines" s_lines f fd) (T : Tx K mg cS cL cG aI aJ tB) (D_parts : Dn P w K mg base CX0 1 "_law_parts" ["_law_text_here"] spWords) : FnOk P w K mg base CX0 2 f fd ["_law_text_here", "_law_room", "_law_broken"] spLLines := by
  refine F.ok sc_lines (fun vs H Q E h => ?_) (fun cdv A outer s H vs Q E hr h => ?_)
  · obtain ⟨t, w, b, rfl, _⟩ := h
    rfl
  · obtain ⟨t, w, b, rfl, ht, ok, w1, w2, k1⟩ := h
    refine ⟨_, (pss_cons (ps_if (pt_not (pt_val (pv 2))) (pss_one (ps_ret (pe_lst (pa_cons (pe_slice sl_str (pv 0) po_none (po_some (pv 1))) pa_nil)))) pss_nil)
      (pss_cons (ps_set (i := 3) sc_lines.nd rfl (.inl rfl) (pe_lst pa_nil))
      (pss_cons (ps_for PassesOwn.never rfl (pi_list (pe_callD D_parts (hr.mono (by omega)) (by rfl) pass0 (pa_cons (pv 0) pa_nil))) (pg_name (i := 4) sc_lines.nd rfl (.inr rfl))
        (pss_one (ps_if (PW.pt (pw_and (pt_cmpR (op_neD hr.units) (pv 3) (pe_lst pa_nil) (nomark _)) (pw_and (pt_cmpR op_le (pe_callB call_len_str (by rfl) T.no_len (by decide +kernel) (pa_cons (pv 4) pa_nil)) (pv 1) (nomark _)) (pw_and1 (pt_cmpR op_lt (pe_op op_add (pe_callB call_len_str (by rfl) T.no_len (by decide +kernel) (pa_cons (pe_ix ix_list (pv 3) (pe_un un_neg pe_int) (fun _ _ => rfl)) pa_nil)) (pe_callB call_len_str (by rfl) T.no_len (by decide +kernel) (pa_cons (pv 4) pa_nil))) (pv 1) (nomark _)))))) (pss_one (ps_asg (pe_op op_add_str (pe_op op_add_str (pe_ix ix_list (pv 3) (pe_un un_neg pe_int) (fun _ _ => rfl)) pe_str) (pv 4)) (pg_sub (pv 3) (pe_un un_neg pe_int) set_list))) (pss_one (ps_set (i := 3) sc_lines.nd rfl (.inl rfl) (pe_op op_cat (pv 3) (pe_lc (own := [("_law_at", 5)]) (g := gName 5) rfl sc_lines.nd (pi_range3 (by rfl) T.no_range (pa_cons pe_int (pa_cons (pe_callB call_len_str (by rfl) T.no_len (by decide +kernel) (pa_cons (pv 4) pa_nil)) (pa_cons (pv 1) pa_nil)))) (blkOk_by (N := ["_law_text_here", "_law_room", "_law_broken", "_law_rows", "_law_word", "_law_at"]) (sc := defScope s_lines) (by decide +kernel)) (fun _ _ _ _ _ => (pg_name (i := 5) sc_lines.nd rfl (Or.inl rfl))) (fun _ _ _ _ _ => pts_nil) (fun _ _ _ _ _ => (pe_slice sl_str (pv 4) (po_some (pv 5)) (po_some (pe_op op_add (pv 5) (pv 1))))))))))))
      (pss_one (ps_ret (pv 3)))))), ?_⟩
    refine ⟨_, rfl, _, rfl, ?_⟩
    refine ite2 (fun c => ?_) (fun c => ?_)
    · have eb : b = false := by cases b <;> simp_all
      subst eb
      refine ⟨_, rfl, _, rfl, _, rfl, _, rfl, small (by omega), (by show 1 ≤ sizeLine; decide), fun l hl => ?_⟩
      exact k1 l _ (same_new hl _) upd_same
    · have eb : b = true := by cases b <;> simp_all
      subst eb
      refine ⟨(by show 0 ≤ sizeLine; decide), fun l0 nl0 => ?_⟩
      have s1 := same_new nl0 (.lst [])
      have e1 : upd H l0 (.lst []) l0 = some (.lst []) := upd_same
      generalize upd H l0 (.lst []) = H1 at s1 e1 ⊢
      refine ⟨_, rfl, t, rfl, ht, fun lw H2 nw s2 ew => ?_⟩
      have wl := words_len t
      refine ⟨lw, rfl, ⟨_, SqL.of ew⟩, ?_⟩
      refine for_list (K := K) (a := lw) (xs := (wordsM t).map V.str) (fun j σ H' => Same H H' ∧ H' lw = some (.lst ((wordsM t).map V.str)) ∧ ∃ l x4 x5, σ = [some (.str t), some (.int w), some (.bl true), some (.ref l), x4, x5] ∧ H' l = some (.lst ((linesM w ((wordsM t).take j)).map V.str)) ∧ H l = none ∧ l ≠ lw) ⟨s1.trans s2, ew, l0, _, _, rfl, s2 _ _ e1, nl0, ne_of_none e1 nw⟩ (fun j σ H' _ q => SqL.of q.2.1) ?_ ?_
      · rintro j y σ H5 hy ⟨s5, ew5, l, x4, x5, rfl, h5, nl, ll⟩
        rw [List.getElem?_map] at hy
        cases hj : (wordsM t)[j]? with
        | none => rw [hj] at hy; cases hy
        | some x =>
          rw [hj] at hy
          have hy' : V.str x = y := Option.some.inj hy
          subst hy'
          have xl := (words_mem (List.mem_of_getElem? hj)).1
          obtain ⟨jl, _⟩ := List.getElem?_eq_some_iff.mp hj
          have wm : ∀ z ∈ (wordsM t).take j, z.length ≤ 60 := fun z hz => Nat.le_trans (words_mem (List.mem_of_mem_take hz)).1 ht
          have tl : ((wordsM t).take j).length ≤ 62 := Nat.le_trans (List.length_take_le' _ _) (by omega)
          have l1' : (linesM w ((wordsM t).take j)).length ≤ 0 + 60 * ((wordsM t).take j).length := lines_len (w := w) (B := 60) ((wordsM t).take j) [] wm
          have l2' : ∀ y ∈ linesM w ((wordsM t).take j), y.length ≤ 0 + 61 * ((wordsM t).take j).length := lines_mem (w := w) ((wordsM t).take j) [] 0 wm (fun l hl => nomatch hl)
          obtain ⟨ls, els⟩ : ∃ ls, ls = linesM w ((wordsM t).take j) := ⟨_, rfl⟩
          rw [← els] at h5 l1' l2'
          refine ⟨_, rfl, (by show 0 ≤ sizeLine; decide), fun le hle => ?_⟩
          have s7 := same_new hle (.lst [])
          have e7 : upd H5 le (.lst []) le = some (.lst []) := upd_same
          generalize upd H5 le (.lst []) = H7 at s7 e7 ⊢
          have h7 := s7 _ _ h5
          have s57 := s5.trans s7
          have ew7 := s7 _ _ ew5
          have lok : ∀ y ∈ ls, OkS y := by rw [els]; exact lines_ok ((wordsM t).take j) [] (fun x hx => words_ok ok x (List.mem_of_mem_take hx)) (fun l hl => nomatch hl)
          refine ⟨.list (ls.map PyData.str), .list [], .lst (SqL.of h7) (strs_dp _), .lst (SqL.of e7) .nil, strs_shaped lok, nil_shaped, _, rfl, ?_⟩
          rw [strs_nil]
          cases hls : ls[ls.length - 1]? with
          | none =>
            have e0 := last_none hls
            refine ifF (by rw [e0]; simp) ?_
            refine ifF (by simp) ?_
            refine ⟨_, rfl, _, rfl, _, rfl, small (by omega), _, rfl, _, _, _, _, rfl, RgC.up (by omega) (by omega) w1 w2, fun D hD => ?_⟩
            refine lc_it walk_rangeC (fun j H2 => Same H7 H2 ∧ H2 D = some (.lst (((List.range j).map fun (i : Nat) => cutS x (some (0 + (i : Nat) * w)) (some (0 + (i : Nat) * w + w))).map V.str))) ⟨same_new hD _, upd_same⟩ (fun j H2 _ q => trivial) ?_ ?_
            · rintro j y H2 H2' hj ⟨s2, e2⟩ ⟨rfl, rfl⟩
              have hj' : j < x.length := Nat.lt_of_lt_of_le hj (np_le w x)
              refine ⟨rfl, ?_⟩
              unfold tYes
              refine ifT rfl ?_
              refine ⟨_, rfl, _, rfl, _, rfl, _, rfl, _, rfl, _, _, rfl, rfl, _, rfl, _, rfl, small (by omega), _, e2, ?_, ?_, ?_⟩
              · refine Nat.lt_of_le_of_lt ?_ (show 1000 < sizeLine by decide)
                rw [List.length_map, List.length_map, List.length_range]
                omega
              · intro b' o' z'
                rw [upd_ne (ne_of_none z' hD)]
                exact s2 _ _ z'
              · rw [upd_same, List.range_succ, List.map_append, List.map_append]
                rfl
            rintro H6 ⟨s6, e6⟩
            have e6' : H6 D = some (.lst ((pcM w x).map V.str)) := e6
            have pl := pc_len w x
            refine ⟨_, _, _, _, rfl, rfl, s6 _ _ h7, e6', ?_, fun p hp => ?_⟩
            · rw [List.length_map, List.length_map]
              exact Nat.le_trans (show _ ≤ 10000 by omega) (by decide)
            refine ⟨s57.trans (s6.trans (same_new hp _)), same_new hp _ _ _ (s6 _ _ ew7), p, _, _, rfl, ?_, (s57.trans s6).free hp, (ne_of_none (s6 _ _ ew7) hp).symm⟩
            rw [upd_same, lines_snoc _ _ hj, ← els, ← List.map_append]
            unfold stepM
            rw [hls]
          | some last =>
            have ne : ls.isEmpty = false := by cases ls with | nil => simp at hls | cons a r => rfl
            refine ifT (by rw [ne]; rfl) ?_
            obtain ⟨al, il⟩ := at_lastS hls
            have lb := l2' last (List.mem_of_getElem? hls)
            refine ⟨_, rfl, _, rfl, small (by omega), _, rfl, _, _, rfl, rfl, _, rfl, ?_⟩
            refine ite2 (fun q0 => ?_) (fun q0 => ?_)
            · refine ⟨_, rfl, _, rfl, _, _, _, _, rfl, rfl, SqL.of h7, al, _, rfl, Nat.le_trans lb (Nat.le_trans (show _ ≤ 10000 by omega) (by decide)), _, rfl, _, rfl, small (by omega), _, _, rfl, rfl, _, rfl, _, _, rfl, rfl, _, rfl, ?_⟩
              refine ite2 (fun q => ?_) (fun q => ?_)
              · have q' : (last.length : Int) + x.length < w := of_decide_eq_true q
                have q2 : (last.length : Int) + 1 + x.length ≤ w := by omega
                have b1 : (" " : Str).length = 1 := by decide +kernel
                refine ⟨_, rfl, _, rfl, _, _, _, _, rfl, rfl, SqL.of h7, al, _, _, rfl, rfl, Nat.le_trans (show _ ≤ 10000 by rw [b1]; omega) (by decide), _, rfl, _, _, rfl, rfl, Nat.le_trans (show _ ≤ 10000 by rw [PySem.Str.length_append, b1]; omega) (by decide), ?_⟩
                refine ⟨_, rfl, _, rfl, l, _, _, _, rfl, rfl, h7, il, ?_⟩
                refine ⟨fun b o q => ?_, ?_, l, _, _, rfl, ?_, nl, ll⟩
                · rw [upd_ne (ne_of_none q nl)]
                  exact s57 _ _ q
                · rw [upd_ne ll.symm]
                  exact ew7
                · rw [upd_same, lines_snoc _ _ hj, ← els, ← List.map_set]
                  unfold stepM
                  rw [hls]
                  simp only [if_pos q2]
              · have q' : ¬ (last.length : Int) + x.length < w := fun z => q (decide_eq_true z)
                have q2 : ¬ (last.length : Int) + 1 + x.length ≤ w := by omega
                refine ⟨_, rfl, _, rfl, _, rfl, small (by omega), _, rfl, _, _, _, _, rfl, RgC.up (by omega) (by omega) w1 w2, fun D hD => ?_⟩
                refine lc_it walk_rangeC (fun j H2 => Same H7 H2 ∧ H2 D = some (.lst (((List.range j).map fun (i : Nat) => cutS x (some (0 + (i : Nat) * w)) (some (0 + (i : Nat) * w + w))).map V.str))) ⟨same_new hD _, upd_same⟩ (fun j H2 _ q => trivial) ?_ ?_
                · rintro j y H2 H2' hj ⟨s2, e2⟩ ⟨rfl, rfl⟩
                  have hj' : j < x.length := Nat.lt_of_lt_of_le hj (np_le w x)
                  refine ⟨rfl, ?_⟩
                  unfold tYes
                  refine ifT rfl ?_
                  refine ⟨_, rfl, _, rfl, _, rfl, _, rfl, _, rfl, _, _, rfl, rfl, _, rfl, _, rfl, small (by omega), _, e2, ?_, ?_, ?_⟩
                  · refine Nat.lt_of_le_of_lt ?_ (show 1000 < sizeLine by decide)
                    rw [List.length_map, List.length_map, List.length_range]
                    omega
                  · intro b' o' z'
                    rw [upd_ne (ne_of_none z' hD)]
                    exact s2 _ _ z'
                  · rw [upd_same, List.range_succ, List.map_append, List.map_append]
                    rfl
                rintro H6 ⟨s6, e6⟩
                have e6' : H6 D = some (.lst ((pcM w x).map V.str)) := e6
                have pl := pc_len w x
                refine ⟨_, _, _, _, rfl, rfl, s6 _ _ h7, e6', ?_, fun p hp => ?_⟩
                · rw [List.length_map, List.length_map]
                  exact Nat.le_trans (show _ ≤ 10000 by omega) (by decide)
                refine ⟨s57.trans (s6.trans (same_new hp _)), same_new hp _ _ _ (s6 _ _ ew7), p, _, _, rfl, ?_, (s57.trans s6).free hp, (ne_of_none (s6 _ _ ew7) hp).symm⟩
                rw [upd_same, lines_snoc _ _ hj, ← els, ← List.map_append]
                unfold stepM
                rw [hls]
                simp only [if_neg q2]
            · have q' : ¬ (x.length : Int) ≤ w := fun z => q0 (decide_eq_true z)
              have q2 : ¬ (last.length : Int) + 1 + x.length ≤ w := by omega
              refine ifF (by simp) ?_
              refine ⟨_, rfl, _, rfl, _, rfl, small (by omega), _, rfl, _, _, _, _, rfl, RgC.up (by omega) (by omega) w1 w2, fun D hD => ?_⟩
              refine lc_it walk_rangeC (fun j H2 => Same H7 H2 ∧ H2 D = some (.lst (((List.range j).map fun (i : Nat) => cutS x (some (0 + (i : Nat) * w)) (some (0 + (i : Nat) * w + w))).map V.str))) ⟨same_new hD _, upd_same⟩ (fun j H2 _ q => trivial) ?_ ?_
              · rintro j y H2 H2' hj ⟨s2, e2⟩ ⟨rfl, rfl⟩
                have hj' : j < x.length := Nat.lt_of_lt_of_le hj (np_le w x)
                refine ⟨rfl, ?_⟩
                unfold tYes
                refine ifT rfl ?_
                refine ⟨_, rfl, _, rfl, _, rfl, _, rfl, _, rfl, _, _, rfl, rfl, _, rfl, _, rfl, small (by omega), _, e2, ?_, ?_, ?_⟩
                · refine Nat.lt_of_le_of_lt ?_ (show 1000 < sizeLine by decide)
                  rw [List.length_map, List.length_map, List.length_range]
                  omega
                · intro b' o' z'
                  rw [upd_ne (ne_of_none z' hD)]
                  exact s2 _ _ z'
                · rw [upd_same, List.range_succ, List.map_append, List.map_append]
                  rfl
              rintro H6 ⟨s6, e6⟩
              have e6' : H6 D = some (.lst ((pcM w x).map V.str)) := e6
              have pl := pc_len w x
              refine ⟨_, _, _, _, rfl, rfl, s6 _ _ h7, e6', ?_, fun p hp => ?_⟩
              · rw [List.length_map, List.length_map]
                exact Nat.le_trans (show _ ≤ 10000 by omega) (by decide)
              refine ⟨s57.trans (s6.trans (same_new hp _)), same_new hp _ _ _ (s6 _ _ ew7), p, _, _, rfl, ?_, (s57.trans s6).free hp, (ne_of_none (s6 _ _ ew7) hp).symm⟩
              rw [upd_same, lines_snoc _ _ hj, ← els, ← List.map_append]
              unfold stepM
              rw [hls]
              simp only [if_neg q2]
      rintro σ H5 ⟨s5, ew5, l, x4, x5, rfl, h5, nl, ll⟩
      rw [List.length_map, List.take_length] at h5
      exact ⟨_, rfl, k1 l H5 s5 h5⟩
-- pick
abbrev s_pick : Stmt := top 19
theorem sc_pick : FnScope ["_law_draw", "_law_many", "_law_cell", "_law_got"] ["_law_draw", "_law_many"] (defScope s_pick) := ⟨rfl, rfl, rfl, by decide +kernel, rfl, by decide +kernel, by decide +kernel⟩
theorem ok_pickL (F : Fun K "_law_pick" "_law_pick" s_pick f fd) (T : Tx K mg cS cL cG aI aJ tB) : FnOk P w K mg base CX0 1 f fd ["_law_draw", "_law_many"] spPickL := by
  refine F.ok sc_pick (fun vs H Q E h => ?_) (fun cdv A outer s H vs Q E hr h => ?_)
  · obtain ⟨a, l, many, rfl, _⟩ := h
    rfl
  · obtain ⟨a, l, many, rfl, D, m1, m2, k⟩ := h
    refine ⟨_, (C8.pss_cut (ps_if (PW.pt (pw_and (pt_cmpR op_lt (pe_ix ix_list (pv 0) pe_int (fun _ _ => rfl)) (pv 1) (nomark _)) (pw_and1 (pt_cmpR op_lt (pe_ix ix_list (pv 0) pe_int (fun _ _ => rfl)) (pe_callB call_len_seq (by rfl) T.no_len (by decide +kernel) (pa_cons (pe_ix ix_list (pv 0) pe_int (fun _ _ => rfl)) pa_nil)) (nomark _))))) (pss_cons (ps_set (i := 2) sc_pick.nd rfl (.inl rfl) (pe_ix ix_list (pe_ix ix_list (pv 0) pe_int (fun _ _ => rfl)) (pe_ix ix_list (pv 0) pe_int (fun _ _ => rfl)) (fun _ _ => rfl)))
        (pss_cons (ps_asg (pe_op op_add (pe_ix ix_list (pv 0) pe_int (fun _ _ => rfl)) pe_int) (pg_sub (pv 0) pe_int set_list))
        (pss_cons (ps_asg pe_int (pg_sub (pv 0) pe_int set_list))
        (pss_one (ps_if (pt_cmpR op_ge (pv 2) (pe_op op_pow pe_int pe_int) (nomark _)) (pss_one (ps_asg (pv 2) (pg_sub (pv 0) pe_int set_list))) (pss_one (ps_asg (pe_op op_mod (pe_op op_add (pe_ix ix_list (pv 0) pe_int (fun _ _ => rfl)) (pv 2)) pe_int) (pg_sub (pv 0) pe_int set_list)))))))) pss_nil)
      (pss_cons (ps_if (pt_cmpR op_ge (pe_ix ix_list (pv 0) pe_int (fun _ _ => rfl)) (pv 1) (nomark _)) (pss_cons (ps_set (i := 3) sc_pick.nd rfl (.inl rfl) (pe_op op_mod (pe_ix ix_list (pv 0) pe_int (fun _ _ => rfl)) (pv 1)))
        (pss_cons (ps_asg (pe_op op_fdiv (pe_ix ix_list (pv 0) pe_int (fun _ _ => rfl)) (pv 1)) (pg_sub (pv 0) pe_int set_list))
        (pss_one (ps_ret (pv 3))))) pss_nil)
      (pss_cons (ps_asg (pe_op op_add (pe_ix ix_list (pv 0) pe_int (fun _ _ => rfl)) pe_int) (pg_sub (pv 0) pe_int set_list))
      (pss_cons (ps_asg (pe_op op_mod (pe_op op_add (pe_op op_add (pe_op op_pow (pe_ix ix_list (pv 0) pe_int (fun _ _ => rfl)) pe_int) (pe_op op_mul pe_int (pe_ix ix_list (pv 0) pe_int (fun _ _ => rfl)))) pe_int) pe_int) (pg_sub (pv 0) pe_int set_list))
      (pss_one (ps_ret (pe_op op_mod (pe_op op_fdiv (pe_ix ix_list (pv 0) pe_int (fun _ _ => rfl)) pe_int) (pv 1)))))))), ?_⟩
    refine ⟨fun σ H1 => (∃ x y, σ = [some (.ref a), some (.int many), x, y]) ∧ DrawL H1 a l ∧ (∀ b, b ≠ a → H1 b = H b), ?_, ?_⟩
    · obtain ⟨ns, i, left, seed, n, h1, h2, hi, hs0, hs1⟩ := D
      have hl : l ≠ a := DrawAt.ne h1 h2
      refine ⟨_, rfl, _, _, _, _, rfl, rfl, SqL.of h1, atI_nat (j := 2) rfl, _, rfl, _, _, rfl, rfl, _, rfl, ?_⟩
      refine ite2 (fun c => ?_) (fun c => ?_)
      · refine ⟨_, rfl, _, _, _, _, rfl, rfl, SqL.of h1, atI_nat (j := 1) rfl, _, rfl, _, _, _, _, rfl, rfl, SqL.of h1, atI_nat (j := 0) rfl, _, _, rfl, .inl (SqL.of h2), _, _, rfl, rfl, _, rfl, ?_⟩
        refine ite2 (fun c => ?_) (fun c => ?_)
        · have c' : i < (((ns.map V.int).length : Nat) : Int) := of_decide_eq_true c
          rw [List.length_map] at c'
          have hk : i.toNat < ns.length := by omega
          have ek : i = ((i.toNat : Nat) : Int) := by omega
          have hat : atI (ns.map V.int) i = some (.int ns[i.toNat]) := by
            exact at_of ek (by rw [List.getElem?_map, List.getElem?_eq_getElem hk] <;> rfl)
          have g2 : ∀ o, upd H a o l = some (.lst (ns.map V.int)) := fun o => by rw [upd_ne hl]; exact h2
          refine ⟨_, rfl, _, _, _, _, rfl, rfl, SqL.of h1, atI_nat (j := 0) rfl, _, rfl, _, _, _, _, rfl, rfl, SqL.of h1, atI_nat (j := 1) rfl, _, _, _, _, rfl, rfl, SqL.of h2, hat, ?_⟩
          refine ⟨_, rfl, _, _, _, _, rfl, rfl, SqL.of h1, atI_nat (j := 1) rfl, _, _, rfl, rfl, _, rfl, _, _, _, 1, rfl, rfl, h1, rfl, ?_⟩
          refine ⟨_, rfl, _, _, _, 2, rfl, rfl, upd_same, rfl, ?_⟩
          rw [upd_upd]
          refine ⟨_, rfl, _, _, rfl, rfl, ⟨by decide, by decide, by decide⟩, _, _, rfl, rfl, _, rfl, ?_⟩
          refine ite2 (fun c => ?_) (fun c => ?_)
          · refine ⟨_, rfl, _, rfl, _, _, _, 2, rfl, rfl, upd_same, rfl, ?_⟩
            rw [upd_upd]
            exact ⟨⟨_, _, rfl⟩, ⟨ns, i + 1, ns[i.toNat], seed, n, upd_same, g2 _, by omega, hs0, hs1⟩, fun b hb => upd_ne hb⟩
          · refine ⟨_, rfl, _, _, _, _, rfl, rfl, SqL.of upd_same, atI_nat (j := 3) rfl, _, rfl, _, _, rfl, rfl, _, _, rfl, rfl, (by show (0 : Int) < 1000000007; decide), _, rfl, _, _, _, 3, rfl, rfl, upd_same, rfl, ?_⟩
            rw [upd_upd]
            exact ⟨⟨_, _, rfl⟩, ⟨ns, i + 1, 0, _, n, upd_same, g2 _, by omega, Int.emod_nonneg _ (by decide), Int.emod_lt_of_pos _ (by decide)⟩, fun b hb => upd_ne hb⟩
        · exact ⟨⟨_, _, rfl⟩, ⟨ns, i, left, seed, n, h1, h2, hi, hs0, hs1⟩, fun b hb => rfl⟩
      · exact ⟨⟨_, _, rfl⟩, ⟨ns, i, left, seed, n, h1, h2, hi, hs0, hs1⟩, fun b hb => rfl⟩
    · rintro σ H1 ⟨⟨x, y, rfl⟩, D1, fr⟩
      obtain ⟨ns, i, left, seed, n, h1, h2, hi, hs0, hs1⟩ := D1
      have hl : l ≠ a := DrawAt.ne h1 h2
      have g2 : ∀ o, upd H1 a o l = some (.lst (ns.map V.int)) := fun o => by rw [upd_ne hl]; exact h2
      have g3 : ∀ o b, b ≠ a → upd H1 a o b = H b := fun o b hb => by rw [upd_ne hb]; exact fr b hb
      refine ⟨_, rfl, _, _, _, _, rfl, rfl, SqL.of h1, atI_nat (j := 2) rfl, _, rfl, _, _, rfl, rfl, _, rfl, ?_⟩
      refine ite2 (fun c => ?_) (fun c => ?_)
      · refine ⟨_, rfl, _, _, _, _, rfl, rfl, SqL.of h1, atI_nat (j := 2) rfl, _, rfl, _, _, rfl, rfl, (show (0 : Int) < many by omega), ?_⟩
        refine ⟨_, rfl, _, _, _, _, rfl, rfl, SqL.of h1, atI_nat (j := 2) rfl, _, rfl, _, _, rfl, rfl, ⟨by omega, by omega⟩, _, rfl, _, _, _, 2, rfl, rfl, h1, rfl, ?_⟩
        refine ⟨_, rfl, ?_⟩
        exact k _ _ (Int.emod_nonneg _ (by omega)) (Int.emod_lt_of_pos _ (by omega)) ⟨ns, i, _, seed, n, upd_same, g2 _, hi, hs0, hs1⟩ (g3 _)
      · refine ⟨_, rfl, _, _, _, _, rfl, rfl, SqL.of h1, atI_nat (j := 4) rfl, _, _, rfl, rfl, _, rfl, _, _, _, 4, rfl, rfl, h1, rfl, ?_⟩
        refine ⟨_, rfl, _, _, _, _, rfl, rfl, SqL.of upd_same, atI_nat (j := 3) rfl, _, _, rfl, rfl, ⟨by decide, by decide, by omega⟩, _, rfl, _, _, _, _, rfl, rfl, SqL.of upd_same, atI_nat (j := 4) rfl, _, _, rfl, rfl, .inl ⟨by decide, by decide⟩, _, _, rfl, rfl, _, _, rfl, rfl, _, _, rfl, rfl, (by show (0 : Int) < 1000000007; decide), _, rfl, _, _, _, 3, rfl, rfl, upd_same, rfl, ?_⟩
        rw [upd_upd]
        refine ⟨_, rfl, _, _, _, _, rfl, rfl, SqL.of upd_same, atI_nat (j := 3) rfl, _, _, rfl, rfl, ⟨by decide, by decide⟩, _, rfl, _, _, rfl, rfl, (show (0 : Int) < many by omega), ?_⟩
        exact k _ _ (Int.emod_nonneg _ (by omega)) (Int.emod_lt_of_pos _ (by omega)) ⟨ns, i, left, _, _, upd_same, g2 _, hi, Int.emod_nonneg _ (by decide), Int.emod_lt_of_pos _ (by decide)⟩ (g3 _)
-- begin
abbrev s_begin : Stmt := top 18
theorem sc_begin : FnScope ["_law_script"] ["_law_script"] (defScope s_begin) := ⟨rfl, rfl, rfl, by decide +kernel, rfl, by decide +kernel, by decide +kernel⟩
theorem ok_begin (F : Fun K "_law_begin" "_law_begin" s_begin f fd) (T : Tx K mg cS cL cG aI aJ tB) : FnOk P w K mg base CX0 1 f fd ["_law_script"] (spBegin K) := by
  refine F.ok sc_begin (fun vs H Q E h => ?_) (fun cdv A outer s H vs Q E hr h => ?_)
  · obtain ⟨a, ns, rfl, _⟩ := h
    rfl
  · obtain ⟨sc, ns, rfl, hS, k⟩ := h
    refine ⟨_, (pss_one (ps_ret (pe_lst (pa_cons (pe_callTy call_list_of (by rfl) T.no_list (by decide +kernel) (pa_cons (pe_slice sl_list (pv 0) po_none (po_some pe_int)) pa_nil)) (pa_cons pe_int (pa_cons pe_int (pa_cons pe_int (pa_cons pe_int pa_nil)))))))), ?_⟩
    refine ⟨_, rfl, _, rfl, _, _, rfl, hS, fun p hp => ?_⟩
    refine ⟨_, _, rfl, .inl (SqL.of upd_same), fun l hl => ?_⟩
    refine ⟨(by show 5 ≤ sizeLine; decide), fun a ha => ?_⟩
    have s0 := (same_new hp (.lst (cutV (ns.map V.int) none (some 63)))).trans (same_new hl (.lst (cutV (ns.map V.int) none (some 63))))
    obtain ⟨ms, em⟩ := cut_ints ns none (some 63)
    refine k a _ (s0.free ha) ⟨l, ms, 0, 0, 1, 0, upd_same, ?_, by decide, by decide, by decide⟩ (s0.trans (same_new ha _))
    rw [upd_ne (ne_of_none upd_same ha), upd_same, em]
-- same
abbrev s_same : Stmt := top 27
theorem sc_same : FnScope ["_law_found", "_law_due", "_law_k"] ["_law_found", "_law_due"] (defScope s_same) := ⟨rfl, rfl, rfl, by decide +kernel, rfl, by decide +kernel, by decide +kernel⟩
theorem ok_same {n : Nat} (F : Fun K "_law_same" "_law_same" s_same f fd) (T : Tx K mg cS cL cG aI aJ tB) (D_same : Dn P w K mg base CX0 n "_law_same" ["_law_found", "_law_due"] (spSame K n)) : FnOk P w K mg base CX0 (n + 1) f fd ["_law_found", "_law_due"] (spSame K (n + 1)) := by
  refine F.ok sc_same (fun vs H Q E h => ?_) (fun cdv A outer s H vs Q E hr h => ?_)
  · obtain ⟨x, y, d, rfl, _⟩ := h
    rfl
  · obtain ⟨x, y, d, rfl, hx, hy, hd, hm, k⟩ := h
    refine ⟨_, (pss_cons (ps_if (pt_cmpR op_isN (pv 1) pe_non (nomark _)) (pss_one (ps_ret (pe_cmpR op_isN (pv 0) pe_non (nomark _)))) pss_nil)
      (pss_cons (ps_if (PW.pt (pw_or (pt_val (pe_callB call_isi (by rfl) T.no_isinstance (by decide +kernel) (pa_cons (pv 1) (pa_cons (pe_bltn (v := .ty "bool") (by rfl) T.no_bool (by decide +kernel) rfl) pa_nil)))) (pw_or1 (pt_val (pe_callB call_isi (by rfl) T.no_isinstance (by decide +kernel) (pa_cons (pv 0) (pa_cons (pe_bltn (v := .ty "bool") (by rfl) T.no_bool (by decide +kernel) rfl) pa_nil))))))) (pss_one (ps_ret (pe_and (pe_callB call_isi (by rfl) T.no_isinstance (by decide +kernel) (pa_cons (pv 1) (pa_cons (pe_bltn (v := .ty "bool") (by rfl) T.no_bool (by decide +kernel) rfl) pa_nil))) (pe_and (pe_callB call_isi (by rfl) T.no_isinstance (by decide +kernel) (pa_cons (pv 0) (pa_cons (pe_bltn (v := .ty "bool") (by rfl) T.no_bool (by decide +kernel) rfl) pa_nil))) (pe_one (pe_cmpR op_eq (pv 0) (pv 1) (nomark _))))))) pss_nil)
      (pss_cons (ps_if (pt_val (pe_callB call_isiT (by rfl) T.no_isinstance (by decide +kernel) (pa_cons (pv 1) (pa_cons (pe_tup (pa_cons (pe_bltn (v := .ty "int") (by rfl) T.no_int (by decide +kernel) rfl) (pa_cons (pe_bltn (v := .ty "str") (by rfl) T.no_str (by decide +kernel) rfl) pa_nil))) pa_nil)))) (pss_one (ps_ret (pe_and (pe_cmpR op_eq (pe_callB call_isi (by rfl) T.no_isinstance (by decide +kernel) (pa_cons (pv 0) (pa_cons (pe_bltn (v := .ty "int") (by rfl) T.no_int (by decide +kernel) rfl) pa_nil))) (pe_callB call_isi (by rfl) T.no_isinstance (by decide +kernel) (pa_cons (pv 1) (pa_cons (pe_bltn (v := .ty "int") (by rfl) T.no_int (by decide +kernel) rfl) pa_nil))) (nomark _)) (pe_and (pe_callB call_isiT (by rfl) T.no_isinstance (by decide +kernel) (pa_cons (pv 0) (pa_cons (pe_tup (pa_cons (pe_bltn (v := .ty "int") (by rfl) T.no_int (by decide +kernel) rfl) (pa_cons (pe_bltn (v := .ty "str") (by rfl) T.no_str (by decide +kernel) rfl) pa_nil))) pa_nil))) (pe_one (pe_cmpR op_eq (pv 0) (pv 1) (nomark _))))))) pss_nil)
      (pss_cons (ps_if (PW.pt (pw_or (pt_cmpR op_ne (pe_callB call_isi (by rfl) T.no_isinstance (by decide +kernel) (pa_cons (pv 0) (pa_cons (pe_bltn (v := .ty "list") (by rfl) T.no_list (by decide +kernel) rfl) pa_nil))) (pe_callB call_isi (by rfl) T.no_isinstance (by decide +kernel) (pa_cons (pv 1) (pa_cons (pe_bltn (v := .ty "list") (by rfl) T.no_list (by decide +kernel) rfl) pa_nil))) (nomark _)) (pw_or1 (pt_cmpR op_ne (pe_callB call_isi (by rfl) T.no_isinstance (by decide +kernel) (pa_cons (pv 0) (pa_cons (pe_bltn (v := .ty "tuple") (by rfl) T.no_tuple (by decide +kernel) rfl) pa_nil))) (pe_callB call_isi (by rfl) T.no_isinstance (by decide +kernel) (pa_cons (pv 1) (pa_cons (pe_bltn (v := .ty "tuple") (by rfl) T.no_tuple (by decide +kernel) rfl) pa_nil))) (nomark _))))) (pss_one (ps_ret pe_bl)) pss_nil)
      (pss_one (ps_ret (pe_and (pe_cmpR op_eq (pe_callB call_len_seq (by rfl) T.no_len (by decide +kernel) (pa_cons (pv 0) pa_nil)) (pe_callB call_len_seq (by rfl) T.no_len (by decide +kernel) (pa_cons (pv 1) pa_nil)) (nomark _)) (pe_one (pe_callB (cr_all rfl) (by rfl) T.no_all (by decide +kernel) (pa_cons (pe_lc (own := [("_law_k", 2)]) (g := gName 2) rfl sc_same.nd (pi_range1 (by rfl) T.no_range (pa_cons (pe_callB call_len_seq (by rfl) T.no_len (by decide +kernel) (pa_cons (pv 1) pa_nil)) pa_nil)) (blkOk_by (N := ["_law_found", "_law_due", "_law_k"]) (sc := defScope s_same) (by decide +kernel)) (fun _ _ _ _ _ => (pg_name (i := 2) sc_same.nd rfl (Or.inl rfl))) (fun _ _ _ _ _ => pts_nil) (fun _ _ _ _ _ => (pe_callD D_same hr (by rfl) pass0 (pa_cons (pe_ix (ixQk (K := K) rfl) (pv 0) (pv 2) (fun _ _ => rfl)) (pa_cons (pe_ix (ixQk (K := K) rfl) (pv 1) (pv 2) (fun _ _ => rfl)) pa_nil))))) pa_nil)))))))))), ?_⟩
    cases d with
    | dict kvs => cases hx
    | none =>
      cases hx
      cases hy
      exact ⟨_, rfl, rfl, _, rfl, ifT rfl ⟨_, rfl, rfl, k H (Same.refl H)⟩⟩
    | bool b =>
      cases hx
      cases hy
      have ty : ∀ H, TyX K H (.bl b) (.type "bool") := fun H => .base (.bl b)
      have kb : kitB "bool" "bool" = some true := by decide +kernel
      refine ⟨_, rfl, rfl, _, rfl, ?_⟩
      refine ifF (by simp) ?_
      refine ⟨_, rfl, _, _, _, _, true, rfl, .ty _, ty _, kit_ty kb, _, rfl, ?_⟩
      refine ifT rfl ?_
      refine ifT rfl ?_
      refine ⟨_, rfl, _, _, _, _, true, rfl, .ty _, ty _, kit_ty kb, _, rfl, ?_⟩
      refine ifT rfl ?_
      refine ⟨_, rfl, _, _, _, _, true, rfl, .ty _, ty _, kit_ty kb, _, rfl, ?_⟩
      refine ifT rfl ?_
      refine ⟨_, rfl, _, rfl, rfl, ?_⟩
      rw [decide_eq_true rfl]
      exact k H (Same.refl H)
    | int b =>
      cases hx
      cases hy
      have ty : ∀ H, TyX K H (.int b) (.type "int") := fun H => .base (.int b)
      have kb : kitB "int" "bool" = some false := by decide +kernel
      have ki : kitB "int" "int" = some true := by decide +kernel
      have ks : kitB "int" "str" = some false := by decide +kernel
      refine ⟨_, rfl, rfl, _, rfl, ?_⟩
      refine ifF (by simp) ?_
      refine ⟨_, rfl, _, _, _, _, false, rfl, .ty _, ty _, kit_ty kb, _, rfl, ?_⟩
      refine ifF (by simp) ?_
      refine ⟨_, rfl, _, _, _, _, false, rfl, .ty _, ty _, kit_ty kb, _, rfl, ?_⟩
      refine ifF (by simp) ?_
      refine ⟨_, rfl, (by show 2 ≤ sizeLine; decide), fun t1 nt1 => ⟨_, _, _, _, _, _, rfl, upd_same, cls2 _ _, ty _, kit2 ki ks, _, rfl, ?_⟩⟩
      refine ifT rfl ?_
      refine ⟨_, rfl, _, _, _, _, true, rfl, .ty _, ty _, kit_ty ki, _, rfl, _, _, _, _, true, rfl, .ty _, ty _, kit_ty ki, rfl, _, rfl, ?_⟩
      refine ifT rfl ?_
      refine ⟨_, rfl, (by show 2 ≤ sizeLine; decide), fun t2 nt2 => ⟨_, _, _, _, _, _, rfl, upd_same, cls2 _ _, ty _, kit2 ki ks, _, rfl, ?_⟩⟩
      refine ifT rfl ?_
      refine ⟨_, rfl, _, rfl, rfl, ?_⟩
      rw [decide_eq_true rfl]
      exact k _ ((same_new nt1 _).trans (same_new nt2 _))
    | str b =>
      cases hx
      cases hy
      have ty : ∀ H, TyX K H (.str b) (.type "str") := fun H => .base (.str b)
      have kb : kitB "str" "bool" = some false := by decide +kernel
      have ki : kitB "str" "int" = some false := by decide +kernel
      have ks : kitB "str" "str" = some true := by decide +kernel
      refine ⟨_, rfl, rfl, _, rfl, ?_⟩
      refine ifF (by simp) ?_
      refine ⟨_, rfl, _, _, _, _, false, rfl, .ty _, ty _, kit_ty kb, _, rfl, ?_⟩
      refine ifF (by simp) ?_
      refine ⟨_, rfl, _, _, _, _, false, rfl, .ty _, ty _, kit_ty kb, _, rfl, ?_⟩
      refine ifF (by simp) ?_
      refine ⟨_, rfl, (by show 2 ≤ sizeLine; decide), fun t1 nt1 => ⟨_, _, _, _, _, _, rfl, upd_same, cls2 _ _, ty _, kit2 ki ks, _, rfl, ?_⟩⟩
      refine ifT rfl ?_
      refine ⟨_, rfl, _, _, _, _, false, rfl, .ty _, ty _, kit_ty ki, _, rfl, _, _, _, _, false, rfl, .ty _, ty _, kit_ty ki, rfl, _, rfl, ?_⟩
      refine ifT rfl ?_
      refine ⟨_, rfl, (by show 2 ≤ sizeLine; decide), fun t2 nt2 => ⟨_, _, _, _, _, _, rfl, upd_same, cls2 _ _, ty _, kit2 ki ks, _, rfl, ?_⟩⟩
      refine ifT rfl ?_
      refine ⟨_, rfl, _, rfl, rfl, ?_⟩
      rw [decide_eq_true rfl]
      exact k _ ((same_new nt1 _).trans (same_new nt2 _))
    | list ds =>
      have hd' : PyData.depthAll ds < n := by simp only [PyData.depth] at hd; omega
      have kb : kitB "list" "bool" = some false := by decide +kernel
      have ki : kitB "list" "int" = some false := by decide +kernel
      have ks : kitB "list" "str" = some false := by decide +kernel
      have kl : kitB "list" "list" = some true := by decide +kernel
      have kt : kitB "list" "tuple" = some false := by decide +kernel
      cases hx with
      | @lst a xs _ sx ax =>
      cases hy with
      | @lst b ys _ sy ay =>
      have lx := dpAll_len ax
      have ly := dpAll_len ay
      have hm1 : ds.length ≤ 100000 := by simp only [mxl] at hm; omega
      have hm2 : mxlAll ds ≤ 100000 := by simp only [mxl] at hm; omega
      have hsl := sizeLine_eq
      refine ⟨_, rfl, rfl, _, rfl, ?_⟩
      refine ifF (by simp) ?_
      refine ⟨_, rfl, _, _, _, _, false, rfl, .ty _, tyx_list sy, kit_ty kb, _, rfl, ?_⟩
      refine ifF (by simp) ?_
      refine ⟨_, rfl, _, _, _, _, false, rfl, .ty _, tyx_list sx, kit_ty kb, _, rfl, ?_⟩
      refine ifF (by simp) ?_
      refine ⟨_, rfl, (by show 2 ≤ sizeLine; decide), fun t1 nt1 => ⟨_, _, _, _, _, _, rfl, upd_same, cls2 _ _, tyx_list ((same_new nt1 _).seq sy), kit2 ki ks, _, rfl, ?_⟩⟩
      refine ifF (by simp) ?_
      have s1 := same_new nt1 (.tup [.ty "int", .ty "str"])
      have sx1 := s1.seq sx
      have sy1 := s1.seq sy
      refine ⟨_, rfl, _, _, _, _, true, rfl, .ty _, tyx_list sx1, kit_ty kl, _, rfl, _, _, _, _, true, rfl, .ty _, tyx_list sy1, kit_ty kl, rfl, _, rfl, ?_⟩
      refine ifF (by simp) ?_
      refine ⟨_, rfl, _, _, _, _, false, rfl, .ty _, tyx_list sx1, kit_ty kt, _, rfl, _, _, _, _, false, rfl, .ty _, tyx_list sy1, kit_ty kt, rfl, _, rfl, ?_⟩
      refine ifF (by simp) ?_
      refine ⟨_, rfl, _, _, rfl, .inl sx1, _, rfl, _, _, rfl, .inl sy1, rfl, _, rfl, ?_⟩
      refine ifT (by simp [lx, ly]) ?_
      refine ⟨_, rfl, _, _, rfl, .inl sy1, _, rfl, (by omega), (by omega), fun D hD => ?_⟩
      generalize upd H t1 (HO.tup [V.ty "int", V.ty "str"]) = H1 at *
      refine lc_range (lo := 0) (n := ((ys.length : Nat) : Int).toNat) (fun i H2 => Same H1 H2 ∧ H2 D = some (.lst (List.replicate i (V.bl true)))) ⟨same_new hD _, upd_same⟩ ?_ ?_
      · rintro i H2 hi ⟨s2, e2⟩
        have hi' : i < ds.length := by omega
        have ed : ds[i]? = some ds[i] := List.getElem?_eq_getElem hi'
        obtain ⟨v, ev, dv⟩ := dpAll_get ax ed
        obtain ⟨u, eu, du⟩ := dpAll_get ay ed
        have nd : (ds[i]).depth < n := Nat.lt_of_le_of_lt (depth_get ed) hd'
        refine ⟨rfl, ?_⟩
        unfold tYes
        refine ifT rfl ?_
        refine ⟨_, rfl, _, rfl, .inl ⟨_, _, _, _, rfl, rfl, s2.seq sx1, at_of (by simp) ev, _, rfl, _, rfl, .inl ⟨_, _, _, _, rfl, rfl, s2.seq sy1, at_of (by simp) eu, _, _, _, rfl, dp_same (s1.trans s2) _ _ dv, dp_same (s1.trans s2) _ _ du, nd, Nat.le_trans (mxl_get ed) hm2, fun H3 s3 => ?_⟩⟩⟩
        refine ⟨_, s3 _ _ e2, (by rw [List.length_replicate]; omega), ?_, ?_⟩
        · intro b' o q
          rw [upd_ne (ne_of_none q hD)]
          exact s3 _ _ (s2 _ _ q)
        · rw [upd_same, rep_succ]
      · rintro H2 ⟨s2, e2⟩
        refine ⟨_, List.replicate ys.length true, rfl, SqL.of (by rw [e2, ← rep_bl]; simp), ?_⟩
        rw [rep_all]
        exact k _ (s1.trans s2)
    | tuple ds =>
      have hd' : PyData.depthAll ds < n := by simp only [PyData.depth] at hd; omega
      have kb : kitB "tuple" "bool" = some false := by decide +kernel
      have ki : kitB "tuple" "int" = some false := by decide +kernel
      have ks : kitB "tuple" "str" = some false := by decide +kernel
      have kl : kitB "tuple" "list" = some false := by decide +kernel
      have kt : kitB "tuple" "tuple" = some true := by decide +kernel
      cases hx with
      | @tup a xs _ sx ax =>
      cases hy with
      | @tup b ys _ sy ay =>
      have lx := dpAll_len ax
      have ly := dpAll_len ay
      have hm1 : ds.length ≤ 100000 := by simp only [mxl] at hm; omega
      have hm2 : mxlAll ds ≤ 100000 := by simp only [mxl] at hm; omega
      have hsl := sizeLine_eq
      refine ⟨_, rfl, rfl, _, rfl, ?_⟩
      refine ifF (by simp) ?_
      refine ⟨_, rfl, _, _, _, _, false, rfl, .ty _, tyx_tuple sy, kit_ty kb, _, rfl, ?_⟩
      refine ifF (by simp) ?_
      refine ⟨_, rfl, _, _, _, _, false, rfl, .ty _, tyx_tuple sx, kit_ty kb, _, rfl, ?_⟩
      refine ifF (by simp) ?_
      refine ⟨_, rfl, (by show 2 ≤ sizeLine; decide), fun t1 nt1 => ⟨_, _, _, _, _, _, rfl, upd_same, cls2 _ _, tyx_tuple (Same.tup (same_new nt1 _) sy), kit2 ki ks, _, rfl, ?_⟩⟩
      refine ifF (by simp) ?_
      have s1 := same_new nt1 (.tup [.ty "int", .ty "str"])
      have sx1 := Same.tup s1 sx
      have sy1 := Same.tup s1 sy
      refine ⟨_, rfl, _, _, _, _, false, rfl, .ty _, tyx_tuple sx1, kit_ty kl, _, rfl, _, _, _, _, false, rfl, .ty _, tyx_tuple sy1, kit_ty kl, rfl, _, rfl, ?_⟩
      refine ifF (by simp) ?_
      refine ⟨_, rfl, _, _, _, _, true, rfl, .ty _, tyx_tuple sx1, kit_ty kt, _, rfl, _, _, _, _, true, rfl, .ty _, tyx_tuple sy1, kit_ty kt, rfl, _, rfl, ?_⟩
      refine ifF (by simp) ?_
      refine ⟨_, rfl, _, _, rfl, .inr sx1, _, rfl, _, _, rfl, .inr sy1, rfl, _, rfl, ?_⟩
      refine ifT (by simp [lx, ly]) ?_
      refine ⟨_, rfl, _, _, rfl, .inr sy1, _, rfl, (by omega), (by omega), fun D hD => ?_⟩
      generalize upd H t1 (HO.tup [V.ty "int", V.ty "str"]) = H1 at *
      refine lc_range (lo := 0) (n := ((ys.length : Nat) : Int).toNat) (fun i H2 => Same H1 H2 ∧ H2 D = some (.lst (List.replicate i (V.bl true)))) ⟨same_new hD _, upd_same⟩ ?_ ?_
      · rintro i H2 hi ⟨s2, e2⟩
        have hi' : i < ds.length := by omega
        have ed : ds[i]? = some ds[i] := List.getElem?_eq_getElem hi'
        obtain ⟨v, ev, dv⟩ := dpAll_get ax ed
        obtain ⟨u, eu, du⟩ := dpAll_get ay ed
        have nd : (ds[i]).depth < n := Nat.lt_of_le_of_lt (depth_get ed) hd'
        refine ⟨rfl, ?_⟩
        unfold tYes
        refine ifT rfl ?_
        refine ⟨_, rfl, _, rfl, .inr (.inl ⟨_, _, _, _, rfl, rfl, Same.tup s2 sx1, at_of (by simp) ev, _, rfl, _, rfl, .inr (.inl ⟨_, _, _, _, rfl, rfl, Same.tup s2 sy1, at_of (by simp) eu, _, _, _, rfl, dp_same (s1.trans s2) _ _ dv, dp_same (s1.trans s2) _ _ du, nd, Nat.le_trans (mxl_get ed) hm2, fun H3 s3 => ?_⟩)⟩)⟩
        refine ⟨_, s3 _ _ e2, (by rw [List.length_replicate]; omega), ?_, ?_⟩
        · intro b' o q
          rw [upd_ne (ne_of_none q hD)]
          exact s3 _ _ (s2 _ _ q)
        · rw [upd_same, rep_succ]
      · rintro H2 ⟨s2, e2⟩
        refine ⟨_, List.replicate ys.length true, rfl, SqL.of (by rw [e2, ← rep_bl]; simp), ?_⟩
        rw [rep_all]
        exact k _ (s1.trans s2)
theorem same_all (F : Fun K "_law_same" "_law_same" s_same f fd) (T : Tx K mg cS cL cG aI aJ tB) (b : Binds K fd ["_law_found", "_law_due"] []) (m : mg "_law_same" = some (.ref f)) (kp : PySem.W.keepIn K (.ref f) = true) :
    ∀ n : Nat, Dn P w K mg base CX0 n "_law_same" ["_law_found", "_law_due"] (spSame K n)
  | 0 => ⟨f, fd, same_none, m, kp, b⟩
  | n + 1 => ⟨f, fd, ok_same F T (same_all F T b m kp n), m, kp, b⟩
end
end K13

set_option Elab.async false
set_option linter.all false
set_option maxRecDepth 100000
set_option maxHeartbeats 4000000
namespace K13
open PySem L2 Gs
section
variable {P : Program} {w : World} {K : PySem.W.Frag} {mg : Str → Option Value} {base : Heap} {f : Addr} {fd : FuncData} {cS cL cG aI aJ : Addr} {tB : Tok}
abbrev s_check_look : Stmt := top 9
theorem sc_check_look : FnScope ["side", "height"] ["side", "height"] (defScope s_check_look) := ⟨rfl, rfl, rfl, by decide +kernel, rfl, by decide +kernel, by decide +kernel⟩
theorem ok_look_c (F : Fun K "check_look" "check_look" s_check_look f fd) (T : Tx K mg cS cL cG aI aJ tB)  : FnOk P w K mg base (L2.CX P w) 1 f fd ["side", "height"] (spLookC cL) := by
  refine F.okX sc_check_look (fun vs H Q E h => ?_) (fun cdv A outer s H vs Q E hr h => ?_)
  · obtain ⟨s, h, rfl, _⟩ := h
    rfl
  · obtain ⟨si, he, rfl, ls, lh, k1, k2⟩ := h
    refine ⟨_, (pss_cons (ps_if (pt_cmpR op_notIn_seq (pv 0) (glR (by rfl) T.mg_SIDES) (by rfl)) (pss_one (ps_raise rfl (takes_of rfl rfl rfl rfl) (SkE.pmk_own1 PySem.F.excBase_ValueError T.x_BadLook.ex T.x_BadLook.g T.x_BadLook.kp (raises_own T.x_BadLook.b T.x_BadLook.t) (by rfl) (pe_joined (.cons (pe_fmt (pv 0)) (.cons pe_str .nil)))))) pss_nil)
      (pss_one (ps_if (pt_cmpR op_notIn_seq (pv 1) (glR (by rfl) T.mg_HEIGHTS) (by rfl)) (pss_one (ps_raise rfl (takes_of rfl rfl rfl rfl) (SkE.pmk_own1 PySem.F.excBase_ValueError T.x_BadLook.ex T.x_BadLook.g T.x_BadLook.kp (raises_own T.x_BadLook.b T.x_BadLook.t) (by rfl) (pe_joined (.cons (pe_fmt (pv 1)) (.cons pe_str .nil)))))) pss_nil))), ?_⟩
    refine ⟨_, rfl, _, _, rfl, .inr (T.sq_SIDES H), rfl, rfl, _, rfl, ?_⟩
    show if (!inV (.str si) [.str "left", .str "middle", .str "right"]) = true then _ else _
    rw [inV_three]
    refine ite2 (fun c => ?_) (fun c => ?_)
    · have c' : ¬ (si = "left" ∨ si = "middle" ∨ si = "right") := fun z => by rw [decide_eq_true z] at c; cases c
      refine ⟨_, rfl, .inl ⟨_, rfl, small (by omega), _, rfl, ?_, _, rfl, ?_, k2 (fun g => c' g.1)⟩⟩
      · exact small (by rw [PySem.Str.length_append]; show 0 + si.length ≤ 1000; omega)
      · exact small (by rw [PySem.Str.length_append, PySem.Str.length_append]; show 0 + si.length + 11 ≤ 1000; omega)
    · have c' : si = "left" ∨ si = "middle" ∨ si = "right" := by
        by_cases z : si = "left" ∨ si = "middle" ∨ si = "right"
        · exact z
        · exact absurd (by rw [decide_eq_false z]; rfl) c
      refine ⟨_, rfl, _, _, rfl, .inr (T.sq_HEIGHTS H), rfl, rfl, _, rfl, ?_⟩
      show if (!inV (.str he) [.str "top", .str "middle", .str "bottom"]) = true then _ else _
      rw [inV_three]
      refine ite2 (fun c2 => ?_) (fun c2 => ?_)
      · have c2' : ¬ (he = "top" ∨ he = "middle" ∨ he = "bottom") := fun z => by rw [decide_eq_true z] at c2; cases c2
        refine ⟨_, rfl, .inl ⟨_, rfl, small (by omega), _, rfl, ?_, _, rfl, ?_, k2 (fun g => c2' g.2)⟩⟩
        · exact small (by rw [PySem.Str.length_append]; show 0 + he.length ≤ 1000; omega)
        · exact small (by rw [PySem.Str.length_append, PySem.Str.length_append]; show 0 + he.length + 13 ≤ 1000; omega)
      · refine k1 ⟨c', ?_⟩
        by_cases z : he = "top" ∨ he = "middle" ∨ he = "bottom"
        · exact z
        · exact absurd (by rw [decide_eq_false z]; rfl) c2
abbrev s_lead : Stmt := top 13
theorem sc_lead : FnScope ["free", "stand"] ["free", "stand"] (defScope s_lead) := ⟨rfl, rfl, rfl, by decide +kernel, rfl, by decide +kernel, by decide +kernel⟩
theorem ok_lead (F : Fun K "lead" "lead" s_lead f fd) (T : Tx K mg cS cL cG aI aJ tB)  : FnOk P w K mg base CX0 1 f fd ["free", "stand"] spLead := by
  refine F.ok sc_lead (fun vs H Q E h => ?_) (fun cdv A outer s H vs Q E hr h => ?_)
  · obtain ⟨n, s, rfl, _⟩ := h
    rfl
  · obtain ⟨n, st, rfl, k⟩ := h
    refine ⟨_, (pss_cons (ps_if (pt_cmpR op_in_seq (pv 1) (pe_tup (pa_cons pe_str (pa_cons pe_str pa_nil))) (by rfl)) (pss_one (ps_ret pe_int)) pss_nil)
      (pss_cons (ps_if (pt_cmpR op_eq (pv 1) pe_str (nomark _)) (pss_one (ps_ret (pe_op op_fdiv (pv 0) pe_int))) pss_nil)
      (pss_one (ps_ret (pv 0))))), ?_⟩
    refine ⟨_, rfl, (by show 2 ≤ sizeLine; decide), fun t ht => ⟨_, _, rfl, .inr (SqT.of upd_same), rfl, rfl, _, rfl, ?_⟩⟩
    have s1 := same_new ht (.tup [.str "left", .str "top"])
    have kk := k _ s1
    show if inV (.str st) [.str "left", .str "top"] = true then _ else _
    rw [inV_two]
    unfold leadM at kk
    refine ite2 (fun c => ?_) (fun c => ?_)
    · rw [if_pos (of_decide_eq_true c)] at kk
      exact kk
    · rw [if_neg (fun z => c (decide_eq_true z))] at kk
      refine ⟨_, rfl, rfl, _, rfl, ?_⟩
      refine ite2 (fun c2 => ?_) (fun c2 => ?_)
      · have c2' : st = "middle" := by have := of_decide_eq_true c2; injection this
        rw [if_pos c2'] at kk
        exact ⟨_, rfl, _, _, rfl, rfl, ⟨by decide, by decide⟩, kk⟩
      · have c2' : ¬ st = "middle" := fun z => c2 (decide_eq_true (congrArg V.str z))
        rw [if_neg c2'] at kk
        exact ⟨_, rfl, kk⟩
abbrev s_line_on : Stmt := top 14
theorem sc_line_on : FnScope ["lines", "row", "high", "height", "at"] ["lines", "row", "high", "height"] (defScope s_line_on) := ⟨rfl, rfl, rfl, by decide +kernel, rfl, by decide +kernel, by decide +kernel⟩
theorem ok_line_on (F : Fun K "line_on" "line_on" s_line_on f fd) (T : Tx K mg cS cL cG aI aJ tB) (D_lead : Dn P w K mg base CX0 1 "lead" ["free", "stand"] spLead) : FnOk P w K mg base CX0 2 f fd ["lines", "row", "high", "height"] spLineOn := by
  refine F.ok sc_line_on (fun vs H Q E h => ?_) (fun cdv A outer s H vs Q E hr h => ?_)
  · obtain ⟨l, ls, r, hi, h, rfl, _⟩ := h
    rfl
  · obtain ⟨l, ls, r, hi, he, rfl, hl, k⟩ := h
    refine ⟨_, (pss_cons (ps_set (i := 4) sc_line_on.nd rfl (.inl rfl) (pe_op op_sub (pv 1) (pe_callD D_lead (hr.mono (by omega)) (by rfl) pass0 (pa_cons (pe_op op_sub (pv 2) (pe_callB call_len_seq (by rfl) T.no_len (by decide +kernel) (pa_cons (pv 0) pa_nil))) (pa_cons (pv 3) pa_nil)))))
      (pss_one (ps_ret (pe_ifExp (pt_chain op_le op_lt pe_int (pv 4) (pe_callB call_len_seq (by rfl) T.no_len (by decide +kernel) (pa_cons (pv 0) pa_nil))) (pe_ix ix_list (pv 0) (pv 4) (fun _ _ => rfl)) pe_str)))), ?_⟩
    refine ⟨_, rfl, _, rfl, _, rfl, _, _, rfl, .inl (SqL.of hl), _, _, rfl, rfl, _, rfl, _, he, rfl, fun H1 s1 => ⟨_, _, rfl, rfl, ?_⟩⟩
    have kk := k H1 s1
    unfold lineM at kk
    have el : ((ls.map V.str).length : Int) = (ls.length : Int) := by rw [List.length_map]
    obtain ⟨at_, ea⟩ : ∃ at_ : Int, at_ = r - leadM (hi - ls.length) he := ⟨_, rfl⟩
    show gName 4 (V.int (r - leadM (hi - ((ls.map V.str).length : Int)) he)) _ _ _
    rw [el, ← ea]
    rw [← ea] at kk
    refine ⟨_, rfl, _, _, rfl, rfl, _, rfl, ?_⟩
    refine ite2 (fun c => ?_) (fun c => ?_)
    · have c' : 0 ≤ at_ := of_decide_eq_true c
      refine ⟨_, rfl, _, _, rfl, .inl (SqL.of (s1 _ _ hl)), _, _, rfl, rfl, _, rfl, ?_⟩
      refine ite2 (fun c2 => ?_) (fun c2 => ?_)
      · have c2' : at_ < ((ls.map V.str).length : Int) := of_decide_eq_true c2
        rw [el] at c2'
        rw [if_pos ⟨c', c2'⟩] at kk
        have hk : at_.toNat < ls.length := by omega
        rw [List.getD_eq_getElem?_getD, List.getElem?_eq_getElem hk] at kk
        exact ⟨_, rfl, _, rfl, _, _, _, _, rfl, rfl, SqL.of (s1 _ _ hl), at_of (j := at_.toNat) (by omega) (by rw [List.getElem?_map, List.getElem?_eq_getElem hk]; rfl), kk⟩
      · have c2' : ¬ at_ < (ls.length : Int) := fun z => c2 (decide_eq_true (by rw [el]; exact z))
        rw [if_neg (fun z => c2' z.2)] at kk
        exact kk
    · have c' : ¬ 0 ≤ at_ := fun z => c (decide_eq_true z)
      rw [if_neg (fun z => c' z.1)] at kk
      refine ⟨_, rfl, ?_⟩
      refine ifF (by simp) ?_
      exact kk
abbrev s_spread : Stmt := top 15
theorem sc_spread : FnScope ["line", "wide", "side", "ahead"] ["line", "wide", "side"] (defScope s_spread) := ⟨rfl, rfl, rfl, by decide +kernel, rfl, by decide +kernel, by decide +kernel⟩
theorem ok_spread (F : Fun K "spread" "spread" s_spread f fd) (T : Tx K mg cS cL cG aI aJ tB) (D_lead : Dn P w K mg base CX0 1 "lead" ["free", "stand"] spLead) : FnOk P w K mg base CX0 2 f fd ["line", "wide", "side"] spSpread := by
  refine F.ok sc_spread (fun vs H Q E h => ?_) (fun cdv A outer s H vs Q E hr h => ?_)
  · obtain ⟨x, w, s, rfl, _⟩ := h
    rfl
  · obtain ⟨x, w, si, rfl, hx, w1, w2, k⟩ := h
    refine ⟨_, (pss_cons (ps_set (i := 3) sc_spread.nd rfl (.inl rfl) (pe_op op_mul_str (glS (by rfl) T.mg_BLANK) (pe_callD D_lead (hr.mono (by omega)) (by rfl) pass0 (pa_cons (pe_op op_sub (pv 1) (pe_callB call_len_str (by rfl) T.no_len (by decide +kernel) (pa_cons (pv 0) pa_nil))) (pa_cons (pv 2) pa_nil)))))
      (pss_one (ps_ret (pe_bm PySem.F.plainAttrs_str PySem.F.slot_str_ljust PySem.F.type_str_ljust mt_ljust (pe_op op_add_str (pv 3) (pv 0)) (pa_cons (pv 1) pa_nil))))), ?_⟩
    have xl : x.length ≤ sizeLine := Nat.le_trans hx (by decide)
    have lb := lead_bd2 (n := w - x.length) (s := si)
    have lb1 : leadM (w - x.length) si ≤ 100000 := by have := lb.1; split at this <;> omega
    have lb2 : -100000 ≤ leadM (w - x.length) si := by have := lb.2; split at this <;> omega
    refine ⟨_, rfl, _, rfl, _, rfl, xl, _, _, rfl, rfl, _, rfl, _, si, rfl, fun H1 s1 => ⟨_, _, rfl, rfl, mulOk_blank (by omega) (by omega), ?_⟩⟩
    refine ⟨_, rfl, _, rfl, _, _, rfl, rfl, ?_, rfl, _, rfl, _, _, rfl, rfl, ?_, k H1 s1⟩
    · have : (Txt.mul " " (leadM (w - x.length) si)).length ≤ 100000 := by
        rw [mul_blank, ← len_toList]
        simp only [List.toList_toArray, List.length_replicate]
        omega
      exact Nat.le_trans (show _ ≤ 1000000 by omega) (by decide)
    · unfold PadOk Builtin.Str.tooLong
      have e2 : sizeLine = 16777216 := by decide
      have e1 : fitsSsize w = true := by
        unfold fitsSsize
        rw [decide_eq_false (by omega), decide_eq_false (by omega)]
        rfl
      rw [e1, decide_eq_false (by omega)]
      rfl
abbrev s_laid : Stmt := top 16
theorem sc_laid : FnScope ["text", "high", "wide", "side", "height", "wrap", "lines", "row"] ["text", "high", "wide", "side", "height", "wrap"] (defScope s_laid) := ⟨rfl, rfl, rfl, by decide +kernel, rfl, by decide +kernel, by decide +kernel⟩
theorem ok_laid (F : Fun K "laid" "laid" s_laid f fd) (T : Tx K mg cS cL cG aI aJ tB) (D_check_wide : Dn P w K mg base (L2.CX P w) 1 "check_wide" ["wide"] (spWide cS)) (D_check_look : Dn P w K mg base (L2.CX P w) 1 "check_look" ["side", "height"] (spLookC cL)) (K_set_lines_wrap : Kn P w K mg base (L2.CX P w) 2 "set_lines" ["text", "wide", "wrap"] 2 ["wrap"] (fun vs zs => vs ++ zs) (spSetL cS)) (D_line_on : Dn P w K mg base CX0 2 "line_on" ["lines", "row", "high", "height"] spLineOn) (D_spread : Dn P w K mg base CX0 2 "spread" ["line", "wide", "side"] spSpread) : FnOk P w K mg base (L2.CX P w) 3 f fd ["text", "high", "wide", "side", "height", "wrap"] (spLaid cS cL) := by
  refine F.okX sc_laid (fun vs H Q E h => ?_) (fun cdv A outer s H vs Q E hr h => ?_)
  · obtain ⟨t, hi, wi, s, h, b, rfl, _⟩ := h
    rfl
  · obtain ⟨t, hi, wi, si, he, b, rfl, ht, sh, sw, h2, w2, ls, lh, k1, k2, k3⟩ := h
    refine ⟨_, (pss_cons (ps_if (pt_cmpR op_lt (pv 1) pe_int (nomark _)) (pss_one (ps_raise rfl (takes_of rfl rfl rfl rfl) (SkE.pmk_own1 PySem.F.excBase_ValueError T.x_BadSize.ex T.x_BadSize.g T.x_BadSize.kp (raises_own T.x_BadSize.b T.x_BadSize.t) (by rfl) (pe_joined (.cons (pe_fmt (pv 1)) (.cons pe_str .nil)))))) pss_nil)
      (pss_cons (ps_expr (pe_callD D_check_wide (hr.mono (by omega)) (by rfl) (passes_call (takes_of rfl rfl rfl rfl) (fun _ _ _ _ h => h)) (pa_cons (pv 2) pa_nil)))
      (pss_cons (ps_expr (pe_callD D_check_look (hr.mono (by omega)) (by rfl) (passes_call (takes_of rfl rfl rfl rfl) (fun _ _ _ _ h => h)) (pa_cons (pv 3) (pa_cons (pv 4) pa_nil))))
      (pss_cons (ps_set (i := 6) sc_laid.nd rfl (.inr rfl) (pe_callKD K_set_lines_wrap (hr.mono (by omega)) (by rfl) (passes_call (takes_of rfl rfl rfl rfl) (fun _ _ _ _ h => h)) (pa_cons (pv 0) (pa_cons (pv 2) pa_nil)) (pk_cons (pv 5) pk_nil)))
      (pss_one (ps_ret (pe_lc (own := [("row", 7)]) (g := gName 7) rfl sc_laid.nd (pi_range1 (by rfl) T.no_range (pa_cons (pv 1) pa_nil)) (blkOk_by (N := ["text", "high", "wide", "side", "height", "wrap", "lines", "row"]) (sc := defScope s_laid) (by decide +kernel)) (fun _ _ _ _ _ => (pg_name (i := 7) sc_laid.nd rfl (Or.inl rfl))) (fun _ _ _ _ _ => pts_nil) (fun _ _ _ _ _ => (pe_callD D_spread (hr.mono (by omega)) (by rfl) pass0 (pa_cons (pe_callD D_line_on (hr.mono (by omega)) (by rfl) pass0 (pa_cons (pv 6) (pa_cons (pv 7) (pa_cons (pv 1) (pa_cons (pv 4) pa_nil))))) (pa_cons (pv 2) (pa_cons (pv 3) pa_nil)))))))))))), ?_⟩
    refine ⟨_, rfl, _, _, rfl, rfl, _, rfl, ?_⟩
    refine ite2 (fun c => ?_) (fun c => ?_)
    · have c' : hi < 1 := of_decide_eq_true c
      have l1 := sh.len
      refine ⟨_, rfl, .inr ⟨_, rfl, sh.log, _, rfl, ?_, _, rfl, ?_, k2 (by omega)⟩⟩
      · exact small (by rw [PySem.Str.length_append]; show 0 + _ ≤ 1000; omega)
      · exact small (by rw [PySem.Str.length_append, PySem.Str.length_append]; show 0 + _ + 22 ≤ 1000; omega)
    · have c' : ¬ hi < 1 := fun q => c (decide_eq_true q)
      refine ⟨_, rfl, wi, rfl, sw, fun w1 => ?_, fun w0 => k2 (by omega)⟩
      refine ⟨_, rfl, _, rfl, si, he, rfl, ls, lh, fun g => ?_, fun g => k3 (by omega) w1 g⟩
      refine ⟨_, rfl, _, rfl, _, rfl, rfl, rfl, t, wi, b, rfl, ht, sw, by omega, fun _ l H1 nl s1 e1 => ?_, fun w0 => absurd w0 (by omega)⟩
      have sm := set_small (w := wi) (b := b) ht
      have swd := set_wide (t := t) (b := b) w1
      refine ⟨_, rfl, _, rfl, by omega, by omega, fun D hD => ?_⟩
      refine lc_range (lo := 0) (n := Int.toNat hi) (fun j H' => Same H1 H' ∧ H' D = some (.lst (((List.range j).map fun (r : Nat) => spreadM (lineM (setM t wi b) (0 + (r : Int)) hi he) wi si).map V.str))) ⟨same_new hD _, upd_same⟩ ?_ ?_
      · rintro j H2 hj ⟨s2, e2⟩
        refine ⟨rfl, ?_⟩
        unfold tYes
        refine ifT rfl ?_
        refine ⟨_, rfl, _, rfl, _, rfl, _, rfl, l, setM t wi b, 0 + (j : Int), hi, he, rfl, s2 _ _ e1, fun H3 s3 => ?_⟩
        have ll : (lineM (setM t wi b) (0 + (j : Int)) hi he).length ≤ 4000 := by
          rcases line_of (ls := setM t wi b) (r := 0 + (j : Int)) (hi := hi) (h := he) with q | q
          · exact sm.2 _ q
          · rw [q]; decide +kernel
        refine ⟨_, rfl, _, rfl, _, wi, si, rfl, ll, w1, w2, fun H4 s4 => ?_⟩
        refine ⟨_, s4 _ _ (s3 _ _ e2), ?_, ?_, ?_⟩
        · refine Nat.lt_of_le_of_lt ?_ (show 1000 < sizeLine by decide)
          rw [List.length_map, List.length_map, List.length_range]
          omega
        · intro b' o' z'
          rw [upd_ne (ne_of_none z' hD)]
          exact s4 _ _ (s3 _ _ (s2 _ _ z'))
        · rw [upd_same, List.range_succ, List.map_append, List.map_append]
          rfl
      rintro H2 ⟨s2, e2⟩
      exact k1 (by omega) w1 g D H2 (s1.trans s2) e2
end
end K13

set_option Elab.async false
set_option linter.all false
set_option maxRecDepth 100000
set_option maxHeartbeats 4000000
namespace K13
open PySem L2 Gs
section
variable {P : Program} {w : World} {K : PySem.W.Frag} {mg : Str → Option Value} {base : Heap} {f : Addr} {fd : FuncData} {cS cL cG aI aJ : Addr} {tB : Tok}
abbrev s_one : Stmt := top 20
theorem sc_one : FnScope ["_law_draw", "_law_some"] ["_law_draw", "_law_some"] (defScope s_one) := ⟨rfl, rfl, rfl, by decide +kernel, rfl, by decide +kernel, by decide +kernel⟩
theorem ok_one (F : Fun K "_law_one" "_law_one" s_one f fd) (T : Tx K mg cS cL cG aI aJ tB) (D_pick : Dn P w K mg base CX0 1 "_law_pick" ["_law_draw", "_law_many"] spPickL) : FnOk P w K mg base CX0 2 f fd ["_law_draw", "_law_some"] spOneT := by
  refine F.ok sc_one (fun vs H Q E h => ?_) (fun cdv A outer s H vs Q E hr h => ?_)
  · obtain ⟨a, l, z, rfl, _⟩ := h
    rfl
  · obtain ⟨a, l, z, rfl, D0, z1, z2, zo, k⟩ := h
    refine ⟨_, (pss_one (ps_ret (pe_ix ix_str (pv 1) (pe_callD D_pick (hr.mono (by omega)) (by rfl) pass0 (pa_cons (pv 0) (pa_cons (pe_callB call_len_str (by rfl) T.no_len (by decide +kernel) (pa_cons (pv 1) pa_nil)) pa_nil))) (fun _ _ => rfl)))), ?_⟩
    refine ⟨_, rfl, _, rfl, _, rfl, z, rfl, small z2, a, l, _, rfl, D0, by omega, by omega, fun r H1 p1 q1 D1 e1 => ?_⟩
    have hk : r.toNat < z.cps.toList.length := by
      rw [Array.length_toList]
      show r.toNat < z.length
      omega
    have ek : atI z.cps.toList r = some z.cps.toList[r.toNat] := by
      have e : r = ((r.toNat : Nat) : Int) := by omega
      have := atI_nat (xs := z.cps.toList) (j := r.toNat) (List.getElem?_eq_getElem hk)
      rw [← e] at this
      exact this
    exact ⟨_, _, _, rfl, rfl, small z2, ek, k _ H1 rfl (zo.one ek) D1 e1⟩
abbrev s_text : Stmt := top 21
theorem sc_text : FnScope ["_law_draw", "_law_most", "_law_size", "_law_some", "_law_k"] ["_law_draw", "_law_most"] (defScope s_text) := ⟨rfl, rfl, rfl, by decide +kernel, rfl, by decide +kernel, by decide +kernel⟩
theorem ok_text (F : Fun K "_law_text" "_law_text" s_text f fd) (T : Tx K mg cS cL cG aI aJ tB) (D_pick : Dn P w K mg base CX0 1 "_law_pick" ["_law_draw", "_law_many"] spPickL) (D_one : Dn P w K mg base CX0 2 "_law_one" ["_law_draw", "_law_some"] spOneT) : FnOk P w K mg base CX0 3 f fd ["_law_draw", "_law_most"] spTextD := by
  refine F.ok sc_text (fun vs H Q E h => ?_) (fun cdv A outer s H vs Q E hr h => ?_)
  · obtain ⟨a, l, most, rfl, _⟩ := h
    rfl
  · obtain ⟨a, l, most, rfl, D0, m0, m1, k⟩ := h
    refine ⟨_, (pss_cons (ps_set (i := 2) sc_text.nd rfl (.inl rfl) (pe_ix ix_tup (pe_tup (pa_cons (pe_callD D_pick (hr.mono (by omega)) (by rfl) pass0 (pa_cons (pv 0) (pa_cons pe_int pa_nil))) (pa_cons (pe_callD D_pick (hr.mono (by omega)) (by rfl) pass0 (pa_cons (pv 0) (pa_cons (pe_op op_add (pv 1) pe_int) pa_nil))) pa_nil))) (pe_callD D_pick (hr.mono (by omega)) (by rfl) pass0 (pa_cons (pv 0) (pa_cons pe_int pa_nil))) (fun _ _ => rfl)))
      (pss_cons (ps_set (i := 3) sc_text.nd rfl (.inr rfl) (pe_ix ix_tup (pe_tup (pa_cons pe_str (pa_cons pe_str (pa_cons pe_str (pa_cons pe_str (pa_cons pe_str pa_nil)))))) (pe_callD D_pick (hr.mono (by omega)) (by rfl) pass0 (pa_cons (pv 0) (pa_cons pe_int pa_nil))) (fun _ _ => rfl)))
      (pss_one (ps_ret (pe_bm PySem.F.plainAttrs_str PySem.F.slot_str_join PySem.F.type_str_join mt_join pe_str (pa_cons (pe_lc (own := [("_law_k", 4)]) (g := gName 4) rfl sc_text.nd (pi_range1 (by rfl) T.no_range (pa_cons (pv 2) pa_nil)) (blkOk_by (N := ["_law_draw", "_law_most", "_law_size", "_law_some", "_law_k"]) (sc := defScope s_text) (by decide +kernel)) (fun _ _ _ _ _ => (pg_name (i := 4) sc_text.nd rfl (Or.inl rfl))) (fun _ _ _ _ _ => pts_nil) (fun _ _ _ _ _ => (pe_callD D_one (hr.mono (by omega)) (by rfl) pass0 (pa_cons (pv 0) (pa_cons (pv 3) pa_nil))))) pa_nil)))))), ?_⟩
    refine ⟨_, rfl, _, l, _, rfl, D0, by decide, by decide, fun r1 H1 p1 q1 D1 e1 => ?_⟩
    refine ⟨_, rfl, _, rfl, _, _, rfl, rfl, _, l, _, rfl, D1, by omega, by omega, fun r2 H2 p2 q2 D2 e2 => ?_⟩
    refine ⟨(by show 2 ≤ sizeLine; decide), fun t3 n3 => ?_⟩
    have s3 := same_new n3 (.tup [.int r1, .int r2])
    have et3 : upd H2 t3 (.tup [.int r1, .int r2]) t3 = some (.tup [.int r1, .int r2]) := upd_same
    generalize upd H2 t3 (.tup [.int r1, .int r2]) = H3 at s3 et3 ⊢
    have D3 := D2.same s3
    refine ⟨_, rfl, _, l, _, rfl, D3, by decide, by decide, fun r4 H4 p4 q4 D4 e4 => ?_⟩
    obtain ⟨size, hs, es⟩ := ints2 (a := r1) (b := r2) p4 q4
    have et4 := (ExtL.pick D4 e4).tup D3 et3
    have q1' : r1 < 9 := q1
    have q2' : r2 < most + 1 := q2
    have hs' : 0 ≤ size ∧ size ≤ 48 := by rcases hs with rfl | rfl <;> omega
    have x4 : ExtL a l H H4 := ((ExtL.pick D1 e1).trans ((ExtL.pick D2 e2).same s3)).trans (ExtL.pick D4 e4)
    refine ⟨_, _, _, _, rfl, rfl, SqT.of et4, es, ?_⟩
    refine ⟨(by show 5 ≤ sizeLine; decide), fun t5 n5 => ?_⟩
    obtain ⟨H5, eH⟩ : ∃ H5, H5 = upd H4 t5 (.tup [V.str "ab ", .str "abcdefg  .", .str "x", .str " ", .str "AZ az 09 ~!#$"]) := ⟨_, rfl⟩
    have s5 : Same H4 H5 := by rw [eH]; exact same_new n5 _
    have et5 : H5 t5 = some (.tup [V.str "ab ", .str "abcdefg  .", .str "x", .str " ", .str "AZ az 09 ~!#$"]) := by rw [eH]; exact upd_same
    have D5 := D4.same s5
    refine ⟨_, rfl, _, l, _, rfl, (by rw [eH] at D5; exact D5), by decide, by decide, fun r6 H6 p6 q6 D6 e6 => ?_⟩
    have e6' : ∀ b, b ≠ a → H6 b = H5 b := by rw [eH]; exact e6
    obtain ⟨z, ez, z1, z2, zo⟩ := signs_at p6 q6
    have et6 := (ExtL.pick D6 e6').tup D5 et5
    have x6 : ExtL a l H H6 := (x4.same s5).trans (ExtL.pick D6 e6')
    refine ⟨_, _, _, _, rfl, rfl, SqT.of et6, ez, ?_⟩
    refine ⟨rfl, _, rfl, _, rfl, by omega, by omega, fun D hD => ?_⟩
    obtain ⟨Da, Dl⟩ := D6.new hD
    refine lc_range (lo := 0) (n := Int.toNat size) (fun i H' => ExtL a l H6 H' ∧ ∃ ys : List Str, H' D = some (.lst (ys.map V.str)) ∧ ys.length = i ∧ ∀ y ∈ ys, y.length = 1 ∧ OkS y) ⟨ExtL.of D6 (same_new hD _), [], upd_same, rfl, fun y hy => nomatch hy⟩ ?_ ?_
    · rintro i H7 hi ⟨x7, ys, e7, yl, yo⟩
      refine ⟨rfl, ?_⟩
      unfold tYes
      refine ifT rfl ?_
      refine ⟨_, rfl, _, rfl, a, l, z, rfl, x7.1, z1, z2, OkS.of zo, fun y H8 y1 yok D8 e8 => ?_⟩
      refine ⟨_, (e8 D Da).trans e7, Nat.lt_of_le_of_lt (by rw [List.length_map, yl]; show i ≤ 1000; omega) (show 1000 < sizeLine by decide), (x7.trans (ExtL.pick D8 e8)).upd hD Da Dl _, ys ++ [y], by rw [upd_same, List.map_append]; rfl, by rw [List.length_append, yl]; rfl, fun u hu => ?_⟩
      rcases List.mem_append.mp hu with q | q
      · exact yo u q
      · rw [List.mem_singleton.mp q]
        exact ⟨y1, yok⟩
    rintro H7 ⟨x7, ys, e7, yl, yo⟩
    have sum : (ys.map (·.length)).sum = ys.length := by
      have : ∀ zs : List Str, (∀ y ∈ zs, y.length = 1) → (zs.map (·.length)).sum = zs.length := fun zs => by
        induction zs with
        | nil => intro _; rfl
        | cons u r ih =>
          intro hz
          simp only [List.map_cons, List.sum_cons, List.length_cons]
          rw [ih fun y hy => hz y (List.mem_cons_of_mem _ hy), hz u List.mem_cons_self]
          omega
      exact this ys fun y hy => (yo y hy).1
    refine ⟨"", D, ys, rfl, rfl, .inl (SqL.of e7), ?_, ?_⟩
    · rw [sum]
      have : ("" : Str).length = 0 := by decide +kernel
      rw [this, yl]
      omega
    refine k _ H7 ?_ (OkS.join fun y hy => (yo y hy).2) (x6.trans x7)
    rw [join_len ys fun y hy => (yo y hy).1, yl]
    omega
abbrev s_look : Stmt := top 22
theorem sc_look : FnScope ["_law_draw", "_law_place"] ["_law_draw"] (defScope s_look) := ⟨rfl, rfl, rfl, by decide +kernel, rfl, by decide +kernel, by decide +kernel⟩
theorem ok_look (F : Fun K "_law_look" "_law_look" s_look f fd) (T : Tx K mg cS cL cG aI aJ tB) (D_pick : Dn P w K mg base CX0 1 "_law_pick" ["_law_draw", "_law_many"] spPickL) : FnOk P w K mg base CX0 2 f fd ["_law_draw"] spLookD := by
  refine F.ok sc_look (fun vs H Q E h => ?_) (fun cdv A outer s H vs Q E hr h => ?_)
  · obtain ⟨a, l, rfl, _⟩ := h
    rfl
  · obtain ⟨a, l, rfl, D0, k⟩ := h
    refine ⟨_, (pss_cons (ps_set (i := 1) sc_look.nd rfl (.inl rfl) (pe_ix ix_tup (pe_tup (pa_cons pe_str (pa_cons pe_str (pa_cons pe_str pa_nil)))) (pe_callD D_pick (hr.mono (by omega)) (by rfl) pass0 (pa_cons (pv 0) (pa_cons pe_int pa_nil))) (fun _ _ => rfl)))
      (pss_one (ps_ret (pe_tup (pa_cons (pv 1) (pa_cons (pe_ix ix_tup (pe_tup (pa_cons pe_str (pa_cons pe_str (pa_cons pe_str pa_nil)))) (pe_callD D_pick (hr.mono (by omega)) (by rfl) pass0 (pa_cons (pv 0) (pa_cons pe_int pa_nil))) (fun _ _ => rfl)) (pa_cons (pe_cmpR op_eq (pe_callD D_pick (hr.mono (by omega)) (by rfl) pass0 (pa_cons (pv 0) (pa_cons pe_int pa_nil))) pe_int (nomark _)) pa_nil))))))), ?_⟩
    refine ⟨(by show 3 ≤ sizeLine; decide), fun t1 n1 => ?_⟩
    have s1 := same_new n1 (.tup [.str "left", .str "middle", .str "right"])
    have e1 : upd H t1 (.tup [.str "left", .str "middle", .str "right"]) t1 = some (.tup [.str "left", .str "middle", .str "right"]) := upd_same
    generalize upd H t1 (.tup [.str "left", .str "middle", .str "right"]) = H1 at s1 e1 ⊢
    have D1 := D0.same s1
    refine ⟨_, rfl, _, l, _, rfl, D1, by decide, by decide, fun r2 H2 p2 q2 D2 x2 => ?_⟩
    have e2 := (ExtL.pick D2 x2).tup D1 e1
    obtain ⟨si, as, gs⟩ : ∃ si : Str, atI [V.str "left", .str "middle", .str "right"] r2 = some (.str si) ∧ (si = "left" ∨ si = "middle" ∨ si = "right") := by
      have q2' : r2 < 3 := q2
      have : r2 = 0 ∨ r2 = 1 ∨ r2 = 2 := by omega
      rcases this with rfl | rfl | rfl
      · exact ⟨_, atI_nat (j := 0) rfl, .inl rfl⟩
      · exact ⟨_, atI_nat (j := 1) rfl, .inr (.inl rfl)⟩
      · exact ⟨_, atI_nat (j := 2) rfl, .inr (.inr rfl)⟩
    refine ⟨_, _, _, _, rfl, rfl, SqT.of e2, as, ?_⟩
    refine ⟨_, rfl, (by show 3 ≤ sizeLine; decide), fun t3 n3 => ?_⟩
    have s3 := same_new n3 (.tup [.str "top", .str "middle", .str "bottom"])
    have e3 : upd H2 t3 (.tup [.str "top", .str "middle", .str "bottom"]) t3 = some (.tup [.str "top", .str "middle", .str "bottom"]) := upd_same
    generalize upd H2 t3 (.tup [.str "top", .str "middle", .str "bottom"]) = H3 at s3 e3 ⊢
    have D3 := D2.same s3
    refine ⟨_, rfl, _, l, _, rfl, D3, by decide, by decide, fun r4 H4 p4 q4 D4 x4 => ?_⟩
    have e4 := (ExtL.pick D4 x4).tup D3 e3
    obtain ⟨he, ah, gh⟩ : ∃ he : Str, atI [V.str "top", .str "middle", .str "bottom"] r4 = some (.str he) ∧ (he = "top" ∨ he = "middle" ∨ he = "bottom") := by
      have q4' : r4 < 3 := q4
      have : r4 = 0 ∨ r4 = 1 ∨ r4 = 2 := by omega
      rcases this with rfl | rfl | rfl
      · exact ⟨_, atI_nat (j := 0) rfl, .inl rfl⟩
      · exact ⟨_, atI_nat (j := 1) rfl, .inr (.inl rfl)⟩
      · exact ⟨_, atI_nat (j := 2) rfl, .inr (.inr rfl)⟩
    refine ⟨_, _, _, _, rfl, rfl, SqT.of e4, ah, ?_⟩
    refine ⟨_, rfl, _, l, _, rfl, D4, by decide, by decide, fun r5 H5 p5 q5 D5 x5 => ⟨rfl, ?_⟩⟩
    refine ⟨(by show 3 ≤ sizeLine; decide), fun t6 n6 => ?_⟩
    exact k t6 si he _ _ ⟨gs, gh⟩ (((((ExtL.of D0 s1).trans (ExtL.pick D2 x2)).same s3).trans (ExtL.pick D4 x4)).trans (ExtL.pick D5 x5) |>.same (same_new n6 _)) upd_same
abbrev s_start : Stmt := top 25
theorem sc_start : FnScope ["_law_free", "_law_place"] ["_law_free", "_law_place"] (defScope s_start) := ⟨rfl, rfl, rfl, by decide +kernel, rfl, by decide +kernel, by decide +kernel⟩
theorem ok_start (F : Fun K "_law_start" "_law_start" s_start f fd) (T : Tx K mg cS cL cG aI aJ tB)  : FnOk P w K mg base CX0 1 f fd ["_law_free", "_law_place"] spStart := by
  refine F.ok sc_start (fun vs H Q E h => ?_) (fun cdv A outer s H vs Q E hr h => ?_)
  · obtain ⟨n, s, rfl, _⟩ := h
    rfl
  · obtain ⟨n, st, rfl, g5, k⟩ := h
    refine ⟨_, (pss_cons (ps_if (pt_cmpR op_in_seq (pv 1) (pe_tup (pa_cons pe_str (pa_cons pe_str pa_nil))) (by rfl)) (pss_one (ps_ret pe_int)) pss_nil)
      (pss_one (ps_ret (pe_ifExp (pt_cmpR op_in_seq (pv 1) (pe_tup (pa_cons pe_str (pa_cons pe_str pa_nil))) (by rfl)) (pv 0) (pe_op op_fdiv (pv 0) pe_int))))), ?_⟩
    refine ⟨_, rfl, (by show 2 ≤ sizeLine; decide), fun t ht => ⟨_, _, rfl, .inr (SqT.of upd_same), rfl, rfl, _, rfl, ?_⟩⟩
    have s1 := same_new ht (.tup [.str "left", .str "top"])
    show if inV (.str st) [.str "left", .str "top"] = true then _ else _
    rw [inV_two]
    refine ite2 (fun c => ?_) (fun c => ?_)
    · have kk := k _ s1
      unfold leadM at kk
      rw [if_pos (of_decide_eq_true c)] at kk
      exact kk
    · have c' : ¬ (st = "left" ∨ st = "top") := fun z => c (decide_eq_true z)
      refine ⟨_, rfl, (by show 2 ≤ sizeLine; decide), fun t2 ht2 => ⟨_, _, rfl, .inr (SqT.of upd_same), rfl, rfl, _, rfl, ?_⟩⟩
      have kk := k _ (s1.trans (same_new ht2 (.tup [.str "right", .str "bottom"])))
      unfold leadM at kk
      rw [if_neg c'] at kk
      show if inV (.str st) [.str "right", .str "bottom"] = true then _ else _
      rw [inV_two]
      refine ite2 (fun c2 => ?_) (fun c2 => ?_)
      · have c2' : ¬ st = "middle" := fun z => by
          have := of_decide_eq_true c2
          rw [z] at this
          rcases this with q | q
          · exact absurd q (by decide +kernel)
          · exact absurd q (by decide +kernel)
        rw [if_neg c2'] at kk
        exact ⟨_, rfl, kk⟩
      · have c2' : st = "middle" := by
          have q : ¬ (st = "right" ∨ st = "bottom") := fun z => c2 (decide_eq_true z)
          rcases g5 with z | z | z | z | z
          · exact absurd (.inl z) c'
          · exact z
          · exact absurd (.inl z) q
          · exact absurd (.inr z) c'
          · exact absurd (.inr z) q
        rw [if_pos c2'] at kk
        exact ⟨_, rfl, _, _, rfl, rfl, ⟨by decide, by decide⟩, kk⟩
abbrev s_set : Stmt := top 26
theorem sc_set : FnScope ["_law_text_here", "_law_tall", "_law_room", "_law_look_here", "_law_rows", "_law_start_here", "_law_found", "_law_at", "_law_line", "_law_free"] ["_law_text_here", "_law_tall", "_law_room", "_law_look_here"] (defScope s_set) := ⟨rfl, rfl, rfl, by decide +kernel, rfl, by decide +kernel, by decide +kernel⟩
theorem ok_setd (F : Fun K "_law_set" "_law_set" s_set f fd) (T : Tx K mg cS cL cG aI aJ tB) (D_lines : Dn P w K mg base CX0 2 "_law_lines" ["_law_text_here", "_law_room", "_law_broken"] spLLines) (D_start : Dn P w K mg base CX0 1 "_law_start" ["_law_free", "_law_place"] spStart) : FnOk P w K mg base CX0 3 f fd ["_law_text_here", "_law_tall", "_law_room", "_law_look_here"] spSetD := by
  refine F.ok sc_set (fun vs H Q E h => ?_) (fun cdv A outer s H vs Q E hr h => ?_)
  · obtain ⟨t, hi, wi, lk, s, h, b, rfl, _⟩ := h
    rfl
  · obtain ⟨t, hi, wi, lk, si, he, b, rfl, hk, g, ht, ok, h1, h2, w1, w2, k⟩ := h
    refine ⟨_, (pss_cons (ps_set (i := 4) sc_set.nd rfl (.inl rfl) (pe_callD D_lines (hr.mono (by omega)) (by rfl) pass0 (pa_cons (pv 0) (pa_cons (pv 2) (pa_cons (pe_ix ix_tup (pv 3) pe_int (fun _ _ => rfl)) pa_nil)))))
      (pss_cons (ps_set (i := 5) sc_set.nd rfl (.inl rfl) (pe_callD D_start (hr.mono (by omega)) (by rfl) pass0 (pa_cons (pe_op op_sub (pv 1) (pe_callB call_len_seq (by rfl) T.no_len (by decide +kernel) (pa_cons (pv 4) pa_nil))) (pa_cons (pe_ix ix_tup (pv 3) pe_int (fun _ _ => rfl)) pa_nil))))
      (pss_cons (ps_set (i := 6) sc_set.nd rfl (.inl rfl) (pe_lst pa_nil))
      (pss_cons (ps_for PassesOwn.never rfl (pi_range1 (by rfl) T.no_range (pa_cons (pv 1) pa_nil)) (pg_name (i := 7) sc_set.nd rfl (.inl rfl))
        (pss_cons (ps_set (i := 8) sc_set.nd rfl (.inl rfl) (pe_ifExp (pt_chain op_le op_lt pe_int (pe_op op_sub (pv 7) (pv 5)) (pe_callB call_len_seq (by rfl) T.no_len (by decide +kernel) (pa_cons (pv 4) pa_nil))) (pe_ix ix_list (pv 4) (pe_op op_sub (pv 7) (pv 5)) (fun _ _ => rfl)) pe_str))
        (pss_cons (ps_set (i := 9) sc_set.nd rfl (.inl rfl) (pe_op op_sub (pv 2) (pe_callB call_len_str (by rfl) T.no_len (by decide +kernel) (pa_cons (pv 8) pa_nil))))
        (pss_one (ps_expr (pe_bm PySem.F.plainAttrs_list PySem.F.slot_list_append PySem.F.type_list_append mt_append (pv 6) (pa_cons (pe_op op_add_str (pe_op op_add_str (pe_op op_mul_str pe_str (pe_callD D_start (hr.mono (by omega)) (by rfl) pass0 (pa_cons (pv 9) (pa_cons (pe_ix ix_tup (pv 3) pe_int (fun _ _ => rfl)) pa_nil)))) (pv 8)) (pe_op op_mul_str pe_str (pe_op op_sub (pv 9) (pe_callD D_start (hr.mono (by omega)) (by rfl) pass0 (pa_cons (pv 9) (pa_cons (pe_ix ix_tup (pv 3) pe_int (fun _ _ => rfl)) pa_nil)))))) pa_nil)))))))
      (pss_one (ps_ret (pv 6))))))), ?_⟩
    refine ⟨_, rfl, _, rfl, _, rfl, _, _, _, _, rfl, rfl, SqT.of hk, atI_nat (j := 2) rfl, t, wi, b, rfl, ht, ok, w1, by omega, fun l H1 s1 e1 => ?_⟩
    have sm := set_small (w := wi) (b := b) ht
    have swd := set_wide (t := t) (b := b) w1
    obtain ⟨ls, els⟩ : ∃ ls, ls = setM t wi b := ⟨_, rfl⟩
    rw [← els] at e1 sm swd
    have el : ((ls.map V.str).length : Int) = (ls.length : Int) := by rw [List.length_map]
    have k1 := s1 _ _ hk
    refine ⟨_, rfl, _, rfl, _, _, rfl, .inl (SqL.of e1), _, _, rfl, rfl, _, rfl, _, _, _, _, rfl, rfl, SqT.of k1, atI_nat (j := 1) rfl, _, he, rfl, g.h5, fun H2 s2 => ?_⟩
    obtain ⟨st, est⟩ : ∃ st : Int, st = leadM (hi - ls.length) he := ⟨_, rfl⟩
    show gName 5 (V.int (leadM (hi - ((ls.map V.str).length : Int)) he)) _ _ _
    rw [el, ← est]
    refine ⟨(by show 0 ≤ sizeLine; decide), fun D hD => ?_⟩
    have s3 := same_new hD (.lst [])
    have e3 : upd H2 D (.lst []) D = some (.lst []) := upd_same
    have nD : H D = none := s1.free (s2.free hD)
    generalize upd H2 D (.lst []) = H3 at s3 e3 ⊢
    have sA := s1.trans (s2.trans s3)
    have lD : l ≠ D := ne_of_none (s2 _ _ e1) hD
    refine ⟨_, rfl, _, rfl, by omega, by omega, ?_⟩
    refine for_range (lo := 0) (n := Int.toNat hi) (fun j σ H' => Same H H' ∧ H' l = some (.lst (ls.map V.str)) ∧ (∃ x7 x8 x9, σ = [some (.str t), some (.int hi), some (.int wi), some (.ref lk), some (.ref l), some (.int st), some (.ref D), x7, x8, x9]) ∧ H' D = some (.lst (((List.range j).map fun (r : Nat) => spreadM (lineM ls (0 + (r : Int)) hi he) wi si).map V.str))) ⟨sA, s3 _ _ (s2 _ _ e1), ⟨_, _, _, rfl⟩, e3⟩ ?_ ?_
    · rintro j σ H4 hj ⟨s4, l4, ⟨x7, x8, x9, rfl⟩, d4⟩
      have k4 := s4 _ _ hk
      obtain ⟨line, eli⟩ : ∃ line, line = lineM ls (0 + (j : Int)) hi he := ⟨_, rfl⟩
      have lw : (line.length : Int) ≤ wi := by
        rw [eli]
        rcases line_of (ls := ls) (r := 0 + (j : Int)) (hi := hi) (h := he) with q | q
        · exact swd _ q
        · rw [q]
          have : ("" : Str).length = 0 := by decide +kernel
          omega
      have ll : line.length ≤ 100000 := by omega
      have lz : line.length ≤ sizeLine := Nat.le_trans ll (by decide)
      refine ⟨_, rfl, _, rfl, _, _, rfl, rfl, _, _, rfl, rfl, _, rfl, ?_⟩
      have line_hit : 0 ≤ 0 + (j : Int) - st → 0 + (j : Int) - st < ls.length → atI (ls.map V.str) (0 + (j : Int) - st) = some (.str line) := fun a b => by
        have hk2 : (0 + (j : Int) - st).toNat < ls.length := by omega
        rw [eli]
        unfold lineM
        rw [← est, if_pos ⟨a, b⟩, List.getD_eq_getElem?_getD, List.getElem?_eq_getElem hk2]
        exact at_of (j := (0 + (j : Int) - st).toNat) (by omega) (by rw [List.getElem?_map, List.getElem?_eq_getElem hk2]; rfl)
      have line_no : ¬ (0 ≤ 0 + (j : Int) - st ∧ 0 + (j : Int) - st < ls.length) → line = "" := fun a => by
        rw [eli]
        unfold lineM
        rw [← est, if_neg a]
      refine ite2 (fun c => ?_) (fun c => ?_)
      · have c' : 0 ≤ 0 + (j : Int) - st := of_decide_eq_true c
        refine ⟨_, rfl, _, _, rfl, .inl (SqL.of l4), _, _, rfl, rfl, _, rfl, ?_⟩
        refine ite2 (fun c2 => ?_) (fun c2 => ?_)
        · have c2' : 0 + (j : Int) - st < ((ls.map V.str).length : Int) := of_decide_eq_true c2
          rw [el] at c2'
          refine ⟨_, rfl, _, rfl, _, rfl, _, _, rfl, rfl, _, _, _, _, rfl, rfl, SqL.of l4, line_hit c' c2', ?_⟩
          refine ⟨_, rfl, _, rfl, _, rfl, lz, _, _, rfl, rfl, ?_⟩
          refine ⟨_, rfl, .inl ⟨rfl, _, .inl (.inl d4)⟩, _, rfl, _, rfl, _, _, _, _, rfl, rfl, SqT.of k4, atI_nat (j := 0) rfl, wi - line.length, si, rfl, g.s5, fun H5 s5 => ?_⟩
          have bd := lead_bd (n := wi - line.length) (s := si) (by omega)
          refine ⟨_, _, rfl, rfl, mulOk_blank (by omega) (by omega), _, rfl, _, _, rfl, rfl, ?_, ?_⟩
          · have := mul_len bd.1
            exact Nat.le_trans (show _ ≤ 1000000 by omega) (by decide)
          refine ⟨_, rfl, _, rfl, _, rfl, _, _, _, _, rfl, rfl, SqT.of (s5 _ _ k4), atI_nat (j := 0) rfl, wi - line.length, si, rfl, g.s5, fun H6 s6 => ?_⟩
          refine ⟨_, _, rfl, rfl, _, _, rfl, rfl, mulOk_blank (by omega) (by omega), _, _, rfl, rfl, ?_, ?_⟩
          · have h1 := mul_len bd.1
            have h2 := mul_len (n := wi - line.length - leadM (wi - line.length) si) (by omega)
            rw [PySem.Str.length_append]
            exact Nat.le_trans (show _ ≤ 1000000 by omega) (by decide)
          have d6 := s6 _ _ (s5 _ _ d4)
          refine ⟨D, _, _, rfl, rfl, d6, ?_, ?_⟩
          · refine Nat.lt_of_le_of_lt ?_ (show 1000 < sizeLine by decide)
            rw [List.length_map, List.length_map, List.length_range]
            omega
          refine ⟨fun b' o' z' => ?_, ?_, ⟨_, _, _, rfl⟩, ?_⟩
          · rw [upd_ne (ne_of_none z' nD)]
            exact s6 _ _ (s5 _ _ (s4 _ _ z'))
          · rw [upd_ne lD]
            exact s6 _ _ (s5 _ _ l4)
          · rw [upd_same, List.range_succ, List.map_append, List.map_append]
            show some (HO.lst (_ ++ [_])) = some (HO.lst (_ ++ [V.str (spreadM (lineM ls (0 + (j : Int)) hi he) wi si)]))
            rw [← eli, spread_eq lw]
        · have c2' : ¬ 0 + (j : Int) - st < (ls.length : Int) := fun z => c2 (decide_eq_true (by rw [el]; exact z))
          have e0 := line_no (fun z => c2' z.2)
          show gName 8 (V.str "") _ _ _
          rw [← e0]
          refine ⟨_, rfl, _, rfl, _, rfl, lz, _, _, rfl, rfl, ?_⟩
          refine ⟨_, rfl, .inl ⟨rfl, _, .inl (.inl d4)⟩, _, rfl, _, rfl, _, _, _, _, rfl, rfl, SqT.of k4, atI_nat (j := 0) rfl, wi - line.length, si, rfl, g.s5, fun H5 s5 => ?_⟩
          have bd := lead_bd (n := wi - line.length) (s := si) (by omega)
          refine ⟨_, _, rfl, rfl, mulOk_blank (by omega) (by omega), _, rfl, _, _, rfl, rfl, ?_, ?_⟩
          · have := mul_len bd.1
            exact Nat.le_trans (show _ ≤ 1000000 by omega) (by decide)
          refine ⟨_, rfl, _, rfl, _, rfl, _, _, _, _, rfl, rfl, SqT.of (s5 _ _ k4), atI_nat (j := 0) rfl, wi - line.length, si, rfl, g.s5, fun H6 s6 => ?_⟩
          refine ⟨_, _, rfl, rfl, _, _, rfl, rfl, mulOk_blank (by omega) (by omega), _, _, rfl, rfl, ?_, ?_⟩
          · have h1 := mul_len bd.1
            have h2 := mul_len (n := wi - line.length - leadM (wi - line.length) si) (by omega)
            rw [PySem.Str.length_append]
            exact Nat.le_trans (show _ ≤ 1000000 by omega) (by decide)
          have d6 := s6 _ _ (s5 _ _ d4)
          refine ⟨D, _, _, rfl, rfl, d6, ?_, ?_⟩
          · refine Nat.lt_of_le_of_lt ?_ (show 1000 < sizeLine by decide)
            rw [List.length_map, List.length_map, List.length_range]
            omega
          refine ⟨fun b' o' z' => ?_, ?_, ⟨_, _, _, rfl⟩, ?_⟩
          · rw [upd_ne (ne_of_none z' nD)]
            exact s6 _ _ (s5 _ _ (s4 _ _ z'))
          · rw [upd_ne lD]
            exact s6 _ _ (s5 _ _ l4)
          · rw [upd_same, List.range_succ, List.map_append, List.map_append]
            show some (HO.lst (_ ++ [_])) = some (HO.lst (_ ++ [V.str (spreadM (lineM ls (0 + (j : Int)) hi he) wi si)]))
            rw [← eli, spread_eq lw]
      · have c' : ¬ 0 ≤ 0 + (j : Int) - st := fun z => c (decide_eq_true z)
        have e0 := line_no (fun z => c' z.1)
        refine ⟨_, rfl, ?_⟩
        refine ifF (by simp) ?_
        show gName 8 (V.str "") _ _ _
        rw [← e0]
        refine ⟨_, rfl, _, rfl, _, rfl, lz, _, _, rfl, rfl, ?_⟩
        refine ⟨_, rfl, .inl ⟨rfl, _, .inl (.inl d4)⟩, _, rfl, _, rfl, _, _, _, _, rfl, rfl, SqT.of k4, atI_nat (j := 0) rfl, wi - line.length, si, rfl, g.s5, fun H5 s5 => ?_⟩
        have bd := lead_bd (n := wi - line.length) (s := si) (by omega)
        refine ⟨_, _, rfl, rfl, mulOk_blank (by omega) (by omega), _, rfl, _, _, rfl, rfl, ?_, ?_⟩
        · have := mul_len bd.1
          exact Nat.le_trans (show _ ≤ 1000000 by omega) (by decide)
        refine ⟨_, rfl, _, rfl, _, rfl, _, _, _, _, rfl, rfl, SqT.of (s5 _ _ k4), atI_nat (j := 0) rfl, wi - line.length, si, rfl, g.s5, fun H6 s6 => ?_⟩
        refine ⟨_, _, rfl, rfl, _, _, rfl, rfl, mulOk_blank (by omega) (by omega), _, _, rfl, rfl, ?_, ?_⟩
        · have h1 := mul_len bd.1
          have h2 := mul_len (n := wi - line.length - leadM (wi - line.length) si) (by omega)
          rw [PySem.Str.length_append]
          exact Nat.le_trans (show _ ≤ 1000000 by omega) (by decide)
        have d6 := s6 _ _ (s5 _ _ d4)
        refine ⟨D, _, _, rfl, rfl, d6, ?_, ?_⟩
        · refine Nat.lt_of_le_of_lt ?_ (show 1000 < sizeLine by decide)
          rw [List.length_map, List.length_map, List.length_range]
          omega
        refine ⟨fun b' o' z' => ?_, ?_, ⟨_, _, _, rfl⟩, ?_⟩
        · rw [upd_ne (ne_of_none z' nD)]
          exact s6 _ _ (s5 _ _ (s4 _ _ z'))
        · rw [upd_ne lD]
          exact s6 _ _ (s5 _ _ l4)
        · rw [upd_same, List.range_succ, List.map_append, List.map_append]
          show some (HO.lst (_ ++ [_])) = some (HO.lst (_ ++ [V.str (spreadM (lineM ls (0 + (j : Int)) hi he) wi si)]))
          rw [← eli, spread_eq lw]
    rintro σ H4 ⟨s4, l4, ⟨x7, x8, x9, rfl⟩, d4⟩
    rw [els] at d4
    exact ⟨_, rfl, k D H4 s4 d4⟩
abbrev s_told : Stmt := top 28
theorem sc_told : FnScope ["_law_text_here", "_law_tall", "_law_room", "_law_look_here", "e"] ["_law_text_here", "_law_tall", "_law_room", "_law_look_here"] (defScope s_told) := ⟨rfl, rfl, rfl, by decide +kernel, rfl, by decide +kernel, by decide +kernel⟩
theorem ok_told (F : Fun K "_law_told" "_law_told" s_told f fd) (T : Tx K mg cS cL cG aI aJ tB) (K_laid_wrap_height_side : Kn P w K mg base (L2.CX P w) 3 "laid" ["text", "high", "wide", "side", "height", "wrap"] 3 ["wrap", "height", "side"] (fun vs zs => vs ++ zs.reverse) (spLaid cS cL)) : FnOk P w K mg base CX0 4 f fd ["_law_text_here", "_law_tall", "_law_room", "_law_look_here"] spTold13 := by
  refine F.ok sc_told (fun vs H Q E h => ?_) (fun cdv A outer s H vs Q E hr h => ?_)
  · obtain ⟨t, hi, wi, lk, s, h, b, rfl, _⟩ := h
    rfl
  · obtain ⟨t, hi, wi, lk, si, he, b, rfl, hk, ht, sh, sw, h2, w2, ls, lh, k1, k2, k3⟩ := h
    have nSL : cS ≠ cL := fun e => by have := T.sl; rw [← e, T.x_BadSize.sf] at this; cases this
    refine ⟨_, (pss_one (ps_try_as (i := 4) rfl rfl sc_told.nd rfl rfl ⟨rfl, by decide, .inl T.x_GridError.g⟩ takes0 (fun W pn xe tk _ => (pss_one (ps_ret (pe_callKSD K_laid_wrap_height_side (hr.mono (by omega)) (by rfl) (fun σ => passAt tk σ) (pa_cons (pv 0) (pa_cons (pv 1) (pa_cons (pv 2) pa_nil))) (pk_cons (pe_ix (ixTk (K := K) rfl) (pv 3) pe_int (fun _ _ => rfl)) (pk_cons (pe_ix (ixTk (K := K) rfl) (pv 3) pe_int (fun _ _ => rfl)) (pk_cons (pe_ix (ixTk (K := K) rfl) (pv 3) pe_int (fun _ _ => rfl)) pk_nil))))))) (fun a oe cls d pn hz hf => (pss_one (ps_ret (pe_lst (pa_cons (pe_callB (call_isX hz hf) (by rfl) T.no_isinstance (by decide +kernel) (pa_cons (pv 4) (pa_cons (glR (by rfl) T.x_BadSize.g) pa_nil))) (pa_cons (pe_callB (call_isX hz hf) (by rfl) T.no_isinstance (by decide +kernel) (pa_cons (pv 4) (pa_cons (glR (by rfl) T.x_BadLook.g) pa_nil))) pa_nil)))))))), ?_⟩
    refine ⟨_, rfl, _, rfl, _, rfl, _, rfl, _, _, _, _, rfl, rfl, SqT.of hk, atI_nat (j := 2) rfl, _, rfl, _, _, _, _, rfl, rfl, SqT.of hk, atI_nat (j := 1) rfl, _, rfl, _, _, _, _, rfl, rfl, SqT.of hk, atI_nat (j := 0) rfl, rfl, rfl, t, hi, wi, si, he, b, rfl, ht, sh, sw, h2, w2, ls, lh, k1, fun no => ?_, fun a1 a2 no => ?_⟩
    · refine ⟨true, exm_own T.x_GridError.b T.x_GridError.cl T.x_GridError.t T.sg, (fun _ e' he' => ?_), (fun q => nomatch q)⟩
      refine ⟨_, rfl, cS, _, _, true, rfl, rfl, T.eS, rfl, rel_ref, kit_same, ?_⟩
      refine ⟨_, rfl, cS, _, _, false, rfl, rfl, T.eS, rfl, rel_ref, kit_own nSL T.x_BadLook.cl T.x_BadLook.t T.sl, ?_⟩
      refine ⟨(by show 2 ≤ sizeLine; decide), fun l hl => ?_⟩
      exact k2 no l _ (same_new hl _) upd_same
    · refine ⟨true, exm_own T.x_GridError.b T.x_GridError.cl T.x_GridError.t T.lg, (fun _ e' he' => ?_), (fun q => nomatch q)⟩
      refine ⟨_, rfl, cL, _, _, false, rfl, rfl, T.eL, rfl, rel_ref, kit_own nSL.symm T.x_BadSize.cl T.x_BadSize.t T.ls, ?_⟩
      refine ⟨_, rfl, cL, _, _, true, rfl, rfl, T.eL, rfl, rel_ref, kit_same, ?_⟩
      refine ⟨(by show 2 ≤ sizeLine; decide), fun l hl => ?_⟩
      exact k3 a1 a2 no l _ (same_new hl _) upd_same
end
end K13

set_option Elab.async false
set_option linter.all false
set_option maxRecDepth 100000
set_option maxHeartbeats 4000000
namespace K13
open PySem L2 Gs
section
variable {P : Program} {w : World} {K : PySem.W.Frag} {mg : Str → Option Value} {base : Heap} {f : Addr} {fd : FuncData} {cS cL cG aI aJ : Addr} {tB : Tok}
abbrev s_law : Stmt := top 29
theorem sc_law : FnScope ["_law_script", "_law_draw", "_law_turn", "_law_text_here", "_law_tall", "_law_room", "_law_look_here", "_law_odd", "_law_due"] ["_law_script"] (defScope s_law) := ⟨rfl, rfl, rfl, by decide +kernel, rfl, by decide +kernel, by decide +kernel⟩
theorem ok_law (F : Fun K "law" "law" s_law f fd) (T : Tx K mg cS cL cG aI aJ tB) (D_begin : Dn P w K mg base CX0 1 "_law_begin" ["_law_script"] (spBegin K)) (D_pick : Dn P w K mg base CX0 1 "_law_pick" ["_law_draw", "_law_many"] spPickL) (D_same : Dn P w K mg base CX0 3 "_law_same" ["_law_found", "_law_due"] (spSame K 3))
    (D_text : Dn P w K mg base CX0 3 "_law_text" ["_law_draw", "_law_most"] spTextD) (D_look : Dn P w K mg base CX0 2 "_law_look" ["_law_draw"] spLookD) (D_set : Dn P w K mg base CX0 3 "_law_set" ["_law_text_here", "_law_tall", "_law_room", "_law_look_here"] spSetD)
    (D_told : Dn P w K mg base CX0 4 "_law_told" ["_law_text_here", "_law_tall", "_law_room", "_law_look_here"] spTold13) (E_laid : Dd P w K mg base (L2.CX P w) 3 "laid" ["text", "high", "wide", "side", "height", "wrap"] [.str "left", .str "top", .bl false] (spLaid cS cL))
    (K_laid_wrap : Kn P w K mg base (L2.CX P w) 3 "laid" ["text", "high", "wide", "side", "height", "wrap"] 3 ["wrap"] (fun vs zs => vs ++ [.str "left", .str "top"] ++ zs) (spLaid cS cL))
    (K_laid_wide_high_height_side : Kn P w K mg base (L2.CX P w) 3 "laid" ["text", "high", "wide", "side", "height", "wrap"] 1 ["wide", "high", "height", "side"] (fun vs zs => gW vs [.bl false] zs) (spLaid cS cL)) : FnOk P w K mg base CX0 6 f fd ["_law_script"] (spLaw K) := by
  refine F.ok sc_law (fun vs H Q E h => ?_) (fun cdv A outer s H vs Q E hr h => ?_)
  · obtain ⟨a, ns, rfl, _⟩ := h
    rfl
  · obtain ⟨scr, ns, rfl, hS, h63, k⟩ := h
    refine ⟨_, (pss_cons (ps_set (i := 1) sc_law.nd rfl (.inl rfl) (pe_callD D_begin (hr.mono (by omega)) (by rfl) pass0 (pa_cons (pv 0) pa_nil)))
      (pss_cons (ps_for PassesOwn.never rfl (pi_range1 (by rfl) T.no_range (pa_cons pe_int pa_nil)) (pg_name (i := 2) sc_law.nd rfl (.inl rfl))
        (pss_cons (ps_set (i := 3) sc_law.nd rfl (.inl rfl) (pe_callD D_text (hr.mono (by omega)) (by rfl) pass0 (pa_cons (pv 1) (pa_cons pe_int pa_nil))))
        (pss_cons (ps_set (i := 4) sc_law.nd rfl (.inl rfl) (pe_ix ix_tup (pe_tup (pa_cons (pe_op op_add pe_int (pe_callD D_pick (hr.mono (by omega)) (by rfl) pass0 (pa_cons (pv 1) (pa_cons pe_int pa_nil)))) (pa_cons (pe_op op_add pe_int (pe_callD D_pick (hr.mono (by omega)) (by rfl) pass0 (pa_cons (pv 1) (pa_cons pe_int pa_nil)))) (pa_cons pe_int (pa_cons (pe_op op_sub pe_int pe_int) pa_nil))))) (pe_callD D_pick (hr.mono (by omega)) (by rfl) pass0 (pa_cons (pv 1) (pa_cons pe_int pa_nil))) (fun _ _ => rfl)))
        (pss_cons (ps_set (i := 5) sc_law.nd rfl (.inl rfl) (pe_ix ix_tup (pe_tup (pa_cons (pe_op op_add pe_int (pe_callD D_pick (hr.mono (by omega)) (by rfl) pass0 (pa_cons (pv 1) (pa_cons pe_int pa_nil)))) (pa_cons (pe_op op_add pe_int (pe_callD D_pick (hr.mono (by omega)) (by rfl) pass0 (pa_cons (pv 1) (pa_cons pe_int pa_nil)))) (pa_cons (pe_op op_add pe_int (pe_callD D_pick (hr.mono (by omega)) (by rfl) pass0 (pa_cons (pv 1) (pa_cons pe_int pa_nil)))) (pa_cons pe_int pa_nil))))) (pe_callD D_pick (hr.mono (by omega)) (by rfl) pass0 (pa_cons (pv 1) (pa_cons pe_int pa_nil))) (fun _ _ => rfl)))
        (pss_cons (ps_set (i := 6) sc_law.nd rfl (.inl rfl) (pe_callD D_look (hr.mono (by omega)) (by rfl) pass0 (pa_cons (pv 1) pa_nil)))
        (pss_cons (ps_set (i := 7) sc_law.nd rfl (.inl rfl) (pe_callD D_pick (hr.mono (by omega)) (by rfl) pass0 (pa_cons (pv 1) (pa_cons pe_int pa_nil))))
        (C8.pss_cut (ps_if (pt_cmpR op_eq (pv 7) pe_int (nomark _)) (pss_one (ps_set (i := 6) sc_law.nd rfl (.inl rfl) (pe_tup (pa_cons (pe_ix ix_tup (pe_tup (pa_cons pe_str (pa_cons pe_str (pa_cons pe_str (pa_cons pe_str pa_nil))))) (pe_callD D_pick (hr.mono (by omega)) (by rfl) pass0 (pa_cons (pv 1) (pa_cons pe_int pa_nil))) (fun _ _ => rfl)) (pa_cons (pe_ix ix_tup (pv 6) pe_int (fun _ _ => rfl)) (pa_cons (pe_ix ix_tup (pv 6) pe_int (fun _ _ => rfl)) pa_nil)))))) pss_nil)
        (C8.pss_cut (ps_if (pt_cmpR op_eq (pv 7) pe_int (nomark _)) (pss_one (ps_set (i := 6) sc_law.nd rfl (.inl rfl) (pe_tup (pa_cons (pe_ix ix_tup (pv 6) pe_int (fun _ _ => rfl)) (pa_cons (pe_ix ix_tup (pe_tup (pa_cons pe_str (pa_cons pe_str (pa_cons pe_str (pa_cons pe_str pa_nil))))) (pe_callD D_pick (hr.mono (by omega)) (by rfl) pass0 (pa_cons (pv 1) (pa_cons pe_int pa_nil))) (fun _ _ => rfl)) (pa_cons (pe_ix ix_tup (pv 6) pe_int (fun _ _ => rfl)) pa_nil)))))) pss_nil)
        (C8.pss_cut (ps_set (i := 8) sc_law.nd rfl (.inl rfl) (pe_ifExp (pt_cmpR op_lt (pv 7) pe_int (nomark _)) (pe_lst (pa_cons pe_bl (pa_cons pe_bl pa_nil))) (pe_lst pa_nil)))
        (C8.pss_cut (ps_if (PW.pt (pw_or (pt_cmpR op_lt (pv 4) pe_int (nomark _)) (pw_or1 (pt_cmpR op_lt (pv 5) pe_int (nomark _))))) (pss_one (ps_set (i := 8) sc_law.nd rfl (.inl rfl) (pe_lst (pa_cons pe_bl (pa_cons pe_bl pa_nil))))) pss_nil)
        (C8.pss_cut (ps_if (pt_cmpR (op_eqD hr.units) (pv 8) (pe_lst pa_nil) (nomark _)) (pss_one (ps_set (i := 8) sc_law.nd rfl (.inl rfl) (pe_callD D_set (hr.mono (by omega)) (by rfl) pass0 (pa_cons (pv 3) (pa_cons (pv 4) (pa_cons (pv 5) (pa_cons (pv 6) pa_nil))))))) pss_nil)
        (C8.pss_cut (ps_if (pt_not (pt_val (pe_callD D_same (hr.mono (by omega)) (by rfl) pass0 (pa_cons (pe_callD D_told (hr.mono (by omega)) (by rfl) pass0 (pa_cons (pv 3) (pa_cons (pv 4) (pa_cons (pv 5) (pa_cons (pv 6) pa_nil))))) (pa_cons (pv 8) pa_nil))))) (pss_one (ps_ret pe_bl)) pss_nil)
        (pss_one (ps_if (PW.pt (pw_and (pt_cmpR op_gt (pv 4) pe_int (nomark _)) (pw_and1 (pt_cmpR op_gt (pv 5) pe_int (nomark _))))) (pss_cons (ps_if (pt_not (pt_val (pe_callD D_same (hr.mono (by omega)) (by rfl) pass0 (pa_cons (pe_callDd E_laid (hr.mono (by omega)) (by rfl) passL (pa_cons (pv 3) (pa_cons (pv 4) (pa_cons (pv 5) pa_nil)))) (pa_cons (pe_callD D_set (hr.mono (by omega)) (by rfl) pass0 (pa_cons (pv 3) (pa_cons (pv 4) (pa_cons (pv 5) (pa_cons (pe_tup (pa_cons pe_str (pa_cons pe_str (pa_cons pe_bl pa_nil)))) pa_nil))))) pa_nil))))) (pss_one (ps_ret pe_bl)) pss_nil)
          (pss_cons (ps_if (pt_not (pt_val (pe_callD D_same (hr.mono (by omega)) (by rfl) pass0 (pa_cons (pe_callKD K_laid_wrap (hr.mono (by omega)) (by rfl) passL (pa_cons (pv 3) (pa_cons (pv 4) (pa_cons (pv 5) pa_nil))) (pk_cons pe_bl pk_nil)) (pa_cons (pe_callD D_set (hr.mono (by omega)) (by rfl) pass0 (pa_cons (pv 3) (pa_cons (pv 4) (pa_cons (pv 5) (pa_cons (pe_tup (pa_cons pe_str (pa_cons pe_str (pa_cons pe_bl pa_nil)))) pa_nil))))) pa_nil))))) (pss_one (ps_ret pe_bl)) pss_nil)
          (pss_cons (ps_set (i := 8) sc_law.nd rfl (.inl rfl) (pe_callD D_set (hr.mono (by omega)) (by rfl) pass0 (pa_cons (pv 3) (pa_cons (pv 4) (pa_cons (pv 5) (pa_cons (pe_tup (pa_cons pe_str (pa_cons pe_str (pa_cons pe_bl pa_nil)))) pa_nil))))))
          (pss_one (ps_if (pt_not (pt_val (pe_callD D_same (hr.mono (by omega)) (by rfl) pass0 (pa_cons (pe_callKD K_laid_wide_high_height_side (hr.mono (by omega)) (by rfl) passL (pa_cons (pv 3) pa_nil) (pk_cons (pv 5) (pk_cons (pv 4) (pk_cons pe_str (pk_cons pe_str pk_nil))))) (pa_cons (pv 8) pa_nil))))) (pss_one (ps_ret pe_bl)) pss_nil))))) pss_nil))))))))))))))
      (pss_one (ps_ret pe_bl)))), ?_⟩
    refine ⟨_, rfl, _, _, rfl, hS, fun a H1 na D1' s1 => ?_⟩
    obtain ⟨l0, D1⟩ := D1'.lst
    refine ⟨_, rfl, by decide, by decide, ?_⟩
    refine for_range (lo := 0) (n := 6) (fun j σ H' => DrawL H' a l0 ∧ ∃ x2 x3 x4 x5 x6 x7 x8, σ = [some (.ref scr), some (.ref a), x2, x3, x4, x5, x6, x7, x8]) ⟨D1, _, _, _, _, _, _, _, rfl⟩ ?_ ?_
    · rintro j σ H2 hj ⟨D2, x2, x3, x4, x5, x6, x7, x8, rfl⟩
      refine ⟨_, rfl, a, l0, 40, rfl, D2, by decide, by decide, fun t H3 tl tok X3 => ?_⟩
      have D3 := X3.1
      -- how high
      refine ⟨_, rfl, _, l0, _, rfl, D3, by decide, by decide, fun r4 H4 p4 q4 D4 e4 => ⟨_, _, rfl, rfl, ?_⟩⟩
      refine ⟨_, rfl, _, l0, _, rfl, D4, by decide, by decide, fun r5 H5 p5 q5 D5 e5 => ⟨_, _, rfl, rfl, ?_⟩⟩
      refine ⟨_, _, rfl, rfl, (by show 4 ≤ sizeLine; decide), fun t6 n6 => ?_⟩
      have q4' : r4 < 9 := q4
      have q5' : r5 < 9 := q5
      obtain ⟨H6, eH⟩ : ∃ H6, H6 = upd H5 t6 (.tup ([1 + r4, 1 + r5, 0, 0 - 1].map V.int)) := ⟨_, rfl⟩
      have s6 : Same H5 H6 := by rw [eH]; exact same_new n6 _
      have et6 : H6 t6 = some (.tup ([1 + r4, 1 + r5, 0, 0 - 1].map V.int)) := by rw [eH]; exact upd_same
      have D6 := D5.same s6
      refine ⟨_, rfl, _, l0, _, rfl, (by rw [eH] at D6; exact D6), by decide, by decide, fun r7 H7 p7 q7 D7 e7 => ?_⟩
      have e7' : ∀ b, b ≠ a → H7 b = H6 b := by rw [eH]; exact e7
      obtain ⟨tall, hw, ew⟩ := ints_atL (xs := [1 + r4, 1 + r5, 0, 0 - 1]) p7 (by exact q7)
      have et7 := (ExtL.pick D7 e7').tup D6 et6
      have bt : -1 ≤ tall ∧ tall ≤ 9 := by
        simp only [List.mem_cons, List.mem_nil_iff, or_false] at hw
        rcases hw with rfl | rfl | rfl | rfl <;> omega
      refine ⟨_, _, _, _, rfl, rfl, SqT.of et7, ew, ?_⟩
      clear et7 ew hw et6 e7 e7' eH D6 s6 D5 D4 D3 e4 e5 X3 D2 n6
      -- how wide
      refine ⟨_, rfl, _, l0, _, rfl, D7, by decide, by decide, fun r8 H8 p8 q8 D8 e8 => ⟨_, _, rfl, rfl, ?_⟩⟩
      refine ⟨_, rfl, _, l0, _, rfl, D8, by decide, by decide, fun r9 H9 p9 q9 D9 e9 => ⟨_, _, rfl, rfl, ?_⟩⟩
      refine ⟨_, rfl, _, l0, _, rfl, D9, by decide, by decide, fun r10 H10 p10 q10 D10 e10 => ⟨_, _, rfl, rfl, ?_⟩⟩
      refine ⟨(by show 4 ≤ sizeLine; decide), fun t11 n11 => ?_⟩
      have q8' : r8 < 9 := q8
      have q9' : r9 < 45 := q9
      have q10' : r10 < 9 := q10
      obtain ⟨H11, eH⟩ : ∃ H11, H11 = upd H10 t11 (.tup ([1 + r8, 1 + r9, 1 + r10, 0].map V.int)) := ⟨_, rfl⟩
      have s11 : Same H10 H11 := by rw [eH]; exact same_new n11 _
      have et11 : H11 t11 = some (.tup ([1 + r8, 1 + r9, 1 + r10, 0].map V.int)) := by rw [eH]; exact upd_same
      have D11 := D10.same s11
      refine ⟨_, rfl, _, l0, _, rfl, (by rw [eH] at D11; exact D11), by decide, by decide, fun r12 H12 p12 q12 D12 e12 => ?_⟩
      have e12' : ∀ b, b ≠ a → H12 b = H11 b := by rw [eH]; exact e12
      obtain ⟨room, hw, ew⟩ := ints_atL (xs := [1 + r8, 1 + r9, 1 + r10, 0]) p12 (by exact q12)
      have et12 := (ExtL.pick D12 e12').tup D11 et11
      have br : 0 ≤ room ∧ room ≤ 45 := by
        simp only [List.mem_cons, List.mem_nil_iff, or_false] at hw
        rcases hw with rfl | rfl | rfl | rfl <;> omega
      refine ⟨_, _, _, _, rfl, rfl, SqT.of et12, ew, ?_⟩
      clear et12 ew hw et11 e12 e12' eH D11 s11 D10 D9 D8 D7 e8 e9 e10 n11
      have st : Sm tall := Sm.of (by omega) (by omega)
      have sr : Sm room := Sm.of (by omega) (by omega)
      -- the look
      refine ⟨_, rfl, a, l0, rfl, D12, fun k0 si0 he0 b0 H13 g0 X13 ek0 => ?_⟩
      have D13 := X13.1
      have gl0 := good_len g0
      refine ⟨_, rfl, _, l0, _, rfl, D13, by decide, by decide, fun odd H14 p14 q14 D14 e14 => ?_⟩
      have ek14 := (ExtL.pick D14 e14).tup D13 ek0
      clear X13 D12 D13 ek0 e14
      refine ⟨fun σ H' => DrawL H' a l0 ∧ ∃ k si he b, σ = [some (.ref scr), some (.ref a), some (.int (0 + (j : Int))), some (.str t), some (.int tall), some (.int room), some (.ref k), some (.int odd), x8] ∧ H' k = some (.tup [.str si, .str he, .bl b]) ∧ si.length ≤ 100 ∧ he.length ≤ 100 ∧ highG he ∧ (odd = 0 → ¬ sideG si) ∧ (odd ≠ 0 → sideG si), ?_, ?_⟩
      · refine ⟨_, rfl, rfl, _, rfl, ?_⟩
        refine ite2 (fun c => ?_) (fun c => ?_)
        · have c' : odd = 0 := by have := of_decide_eq_true c; injection this
          refine ⟨(by show 4 ≤ sizeLine; decide), fun t15 n15 => ?_⟩
          have s15 := same_new n15 (.tup [V.str "top", .str "", .str "Left", .str "bottom"])
          have et15 : upd H14 t15 (.tup [V.str "top", .str "", .str "Left", .str "bottom"]) t15 = some (.tup [V.str "top", .str "", .str "Left", .str "bottom"]) := upd_same
          generalize upd H14 t15 (.tup [V.str "top", .str "", .str "Left", .str "bottom"]) = H15 at s15 et15 ⊢
          have D15 := D14.same s15
          refine ⟨_, rfl, _, l0, _, rfl, D15, by decide, by decide, fun r16 H16 p16 q16 D16 e16 => ?_⟩
          obtain ⟨si, as, ls, ns⟩ := odd_sides p16 q16
          have et16 := (ExtL.pick D16 e16).tup D15 et15
          have ek16 := (ExtL.pick D16 e16).tup D15 (s15 _ _ ek14)
          refine ⟨_, _, _, _, rfl, rfl, SqT.of et16, as, _, rfl, _, _, _, _, rfl, rfl, SqT.of ek16, atI_nat (j := 1) rfl, _, rfl, _, _, _, _, rfl, rfl, SqT.of ek16, atI_nat (j := 2) rfl, (by show 3 ≤ sizeLine; decide), fun k17 n17 => ?_⟩
          exact ⟨D16.same (same_new n17 _), k17, si, he0, b0, rfl, upd_same, ls, gl0.2, g0.2, fun _ => ns, fun z => absurd c' z⟩
        · have c' : ¬ odd = 0 := fun z => c (decide_eq_true (congrArg V.int z))
          exact ⟨D14, k0, si0, he0, b0, rfl, ek14, gl0.1, gl0.2, g0.2, fun z => absurd z c', fun _ => g0.1⟩
      rintro σ H15 ⟨D15, k1, si1, he1, bb, rfl, ek15, ls1, lh1, gh1, gs1, gs2⟩
      clear D14 ek14
      refine ⟨fun σ H' => DrawL H' a l0 ∧ ∃ k si he b, σ = [some (.ref scr), some (.ref a), some (.int (0 + (j : Int))), some (.str t), some (.int tall), some (.int room), some (.ref k), some (.int odd), x8] ∧ H' k = some (.tup [.str si, .str he, .bl b]) ∧ si.length ≤ 100 ∧ he.length ≤ 100 ∧ (odd < 2 → ¬ goodL si he) ∧ (¬ odd < 2 → goodL si he), ?_, ?_⟩
      · refine ⟨_, rfl, rfl, _, rfl, ?_⟩
        refine ite2 (fun c => ?_) (fun c => ?_)
        · have c' : odd = 1 := by have := of_decide_eq_true c; injection this
          refine ⟨_, rfl, _, _, _, _, rfl, rfl, SqT.of ek15, atI_nat (j := 0) rfl, (by show 4 ≤ sizeLine; decide), fun t16 n16 => ?_⟩
          have s16 := same_new n16 (.tup [V.str "left", .str "", .str "Top", .str "right"])
          have et16 : upd H15 t16 (.tup [V.str "left", .str "", .str "Top", .str "right"]) t16 = some (.tup [V.str "left", .str "", .str "Top", .str "right"]) := upd_same
          generalize upd H15 t16 (.tup [V.str "left", .str "", .str "Top", .str "right"]) = H16 at s16 et16 ⊢
          have D16 := D15.same s16
          refine ⟨_, rfl, _, l0, _, rfl, D16, by decide, by decide, fun r17 H17 p17 q17 D17 e17 => ?_⟩
          obtain ⟨he, ah, lh, nh⟩ := odd_highs p17 q17
          have et17 := (ExtL.pick D17 e17).tup D16 et16
          have ek17 := (ExtL.pick D17 e17).tup D16 (s16 _ _ ek15)
          refine ⟨_, _, _, _, rfl, rfl, SqT.of et17, ah, _, rfl, _, _, _, _, rfl, rfl, SqT.of ek17, atI_nat (j := 2) rfl, (by show 3 ≤ sizeLine; decide), fun k18 n18 => ?_⟩
          exact ⟨D17.same (same_new n18 _), k18, si1, he, bb, rfl, upd_same, ls1, lh, fun _ g => nh g.2, fun z => absurd (show odd < 2 by omega) z⟩
        · have c' : ¬ odd = 1 := fun z => c (decide_eq_true (congrArg V.int z))
          exact ⟨D15, k1, si1, he1, bb, rfl, ek15, ls1, lh1, fun z g => gs1 (by omega) g.1, fun z => ⟨gs2 (by omega), gh1⟩⟩
      rintro σ H16 ⟨D16, k2, si, he, b, rfl, ek16, ls, lh, gn, gy⟩
      clear D15 ek15 gs1 gs2 gh1 ls1 lh1 gl0 g0
      -- what is due, first
      obtain ⟨bs0, ebs0⟩ : ∃ bs0 : List Bool, bs0 = if odd < 2 then [false, true] else [] := ⟨_, rfl⟩
      refine ⟨fun σ H' => DrawL H' a l0 ∧ H' k2 = some (.tup [.str si, .str he, .bl b]) ∧ ∃ ld, σ = [some (.ref scr), some (.ref a), some (.int (0 + (j : Int))), some (.str t), some (.int tall), some (.int room), some (.ref k2), some (.int odd), some (.ref ld)] ∧ H' ld = some (.lst (bs0.map V.bl)), ?_, ?_⟩
      · refine ⟨_, rfl, _, _, rfl, rfl, _, rfl, ?_⟩
        refine ite2 (fun c => ?_) (fun c => ?_)
        · have c' : odd < 2 := of_decide_eq_true c
          refine ⟨(by show 2 ≤ sizeLine; decide), fun ld nd => ?_⟩
          have s17 := same_new nd (.lst [V.bl false, .bl true])
          exact ⟨D16.same s17, s17 _ _ ek16, ld, rfl, by rw [upd_same, ebs0, if_pos c']; rfl⟩
        · have c' : ¬ odd < 2 := fun z => c (decide_eq_true z)
          refine ⟨(by show 0 ≤ sizeLine; decide), fun ld nd => ?_⟩
          have s17 := same_new nd (.lst [])
          exact ⟨D16.same s17, s17 _ _ ek16, ld, rfl, by rw [upd_same, ebs0, if_neg c']; rfl⟩
      rintro σ H17 ⟨D17, ek17, ld1, rfl, ed17⟩
      clear D16 ek16
      obtain ⟨bs, ebs⟩ : ∃ bs : List Bool, bs = if tall < 1 ∨ room < 1 then [true, false] else bs0 := ⟨_, rfl⟩
      refine ⟨fun σ H' => DrawL H' a l0 ∧ H' k2 = some (.tup [.str si, .str he, .bl b]) ∧ ∃ ld, σ = [some (.ref scr), some (.ref a), some (.int (0 + (j : Int))), some (.str t), some (.int tall), some (.int room), some (.ref k2), some (.int odd), some (.ref ld)] ∧ H' ld = some (.lst (bs.map V.bl)), ?_, ?_⟩
      · refine ⟨_, rfl, _, _, rfl, rfl, _, rfl, ?_⟩
        have yes : (tall < 1 ∨ room < 1) → ∀ ld, H17 ld = none → DrawL (upd H17 ld (.lst [V.bl true, .bl false])) a l0 ∧ upd H17 ld (.lst [V.bl true, .bl false]) k2 = some (.tup [.str si, .str he, .bl b]) ∧ ∃ ld', [some (V.ref scr), some (.ref a), some (.int (0 + (j : Int))), some (.str t), some (.int tall), some (.int room), some (.ref k2), some (.int odd), some (.ref ld)] = [some (V.ref scr), some (.ref a), some (.int (0 + (j : Int))), some (.str t), some (.int tall), some (.int room), some (.ref k2), some (.int odd), some (.ref ld')] ∧ upd H17 ld (.lst [V.bl true, .bl false]) ld' = some (.lst (bs.map V.bl)) := fun z ld nd => by
          have s18 := same_new nd (.lst [V.bl true, .bl false])
          exact ⟨D17.same s18, s18 _ _ ek17, ld, rfl, by rw [upd_same, ebs, if_pos z]; rfl⟩
        refine ite2 (fun c => ?_) (fun c => ?_)
        · have c' : tall < 1 := of_decide_eq_true c
          refine ifT rfl ?_
          exact ⟨(by show 2 ≤ sizeLine; decide), fun ld nd => yes (.inl c') ld nd⟩
        · have c' : ¬ tall < 1 := fun z => c (decide_eq_true z)
          refine ⟨_, rfl, _, _, rfl, rfl, _, rfl, ?_⟩
          refine ite2 (fun c2 => ?_) (fun c2 => ?_)
          · have c2' : room < 1 := of_decide_eq_true c2
            exact ⟨(by show 2 ≤ sizeLine; decide), fun ld nd => yes (.inr c2') ld nd⟩
          · have c2' : ¬ room < 1 := fun z => c2 (decide_eq_true z)
            exact ⟨D17, ek17, ld1, rfl, by rw [ebs, if_neg (by omega)]; exact ed17⟩
      rintro σ H18 ⟨D18, ek18, ld2, rfl, ed18⟩
      clear D17 ek17 ed17
      -- .. and the laid text
      have hb : (bs = [] ∧ 1 ≤ tall ∧ 1 ≤ room ∧ goodL si he) ∨ (bs = [true, false] ∧ ¬ (1 ≤ tall ∧ 1 ≤ room)) ∨ (bs = [false, true] ∧ 1 ≤ tall ∧ 1 ≤ room ∧ ¬ goodL si he) := by
        by_cases z : tall < 1 ∨ room < 1
        · rw [if_pos z] at ebs
          exact .inr (.inl ⟨ebs, by omega⟩)
        · rw [if_neg z] at ebs
          by_cases z2 : odd < 2
          · rw [if_pos z2] at ebs0
            exact .inr (.inr ⟨ebs.trans ebs0, by omega, by omega, gn z2⟩)
          · rw [if_neg z2] at ebs0
            exact .inl ⟨ebs.trans ebs0, by omega, by omega, gy z2⟩
      refine ⟨fun σ H' => DrawL H' a l0 ∧ H' k2 = some (.tup [.str si, .str he, .bl b]) ∧ ∃ ld, σ = [some (.ref scr), some (.ref a), some (.int (0 + (j : Int))), some (.str t), some (.int tall), some (.int room), some (.ref k2), some (.int odd), some (.ref ld)] ∧ ((1 ≤ tall ∧ 1 ≤ room ∧ goodL si he ∧ H' ld = some (.lst ((laidM t tall room si he b).map V.str))) ∨ (¬ (1 ≤ tall ∧ 1 ≤ room) ∧ H' ld = some (.lst ([true, false].map V.bl))) ∨ (1 ≤ tall ∧ 1 ≤ room ∧ ¬ goodL si he ∧ H' ld = some (.lst ([false, true].map V.bl)))), ?_, ?_⟩
      · refine ⟨_, rfl, (by show 0 ≤ sizeLine; decide), fun le hle => ?_⟩
        have s19 := same_new hle (.lst [])
        have e19 : upd H18 le (.lst []) le = some (.lst []) := upd_same
        generalize upd H18 le (.lst []) = H19 at s19 e19 ⊢
        refine ⟨.list (bs.map PyData.bool), .list [], .lst (SqL.of (s19 _ _ ed18)) (bools_dp _), .lst (SqL.of e19) .nil, bools_shaped _, nil_shaped, _, rfl, ?_⟩
        rw [bools_nil]
        rcases hb with ⟨e0, h1, h2, g⟩ | ⟨e0, h1⟩ | ⟨e0, h1, h2, g⟩
        · refine ifT (by rw [e0]; rfl) ?_
          refine ⟨_, rfl, _, rfl, _, rfl, _, rfl, t, tall, room, k2, si, he, b, rfl, s19 _ _ ek18, g, by omega, tok, h1, by omega, h2, by omega, fun l20 H20 s20 e20 => ?_⟩
          exact ⟨(D18.same s19).same s20, s20 _ _ (s19 _ _ ek18), l20, rfl, .inl ⟨h1, h2, g, e20⟩⟩
        · refine ifF (by rw [e0]; simp) ?_
          exact ⟨D18.same s19, s19 _ _ ek18, ld2, rfl, .inr (.inl ⟨h1, by rw [← e0]; exact s19 _ _ ed18⟩)⟩
        · refine ifF (by rw [e0]; simp) ?_
          exact ⟨D18.same s19, s19 _ _ ek18, ld2, rfl, .inr (.inr ⟨h1, h2, g, by rw [← e0]; exact s19 _ _ ed18⟩)⟩
      rintro σ H19 ⟨D19, ek19, ld, rfl, cs⟩
      clear D18 ek18 ed18 hb ebs ebs0
      refine ⟨fun σ H' => DrawL H' a l0 ∧ σ = [some (.ref scr), some (.ref a), some (.int (0 + (j : Int))), some (.str t), some (.int tall), some (.int room), some (.ref k2), some (.int odd), some (.ref ld)], ?_, ?_⟩
      · refine ⟨_, rfl, _, rfl, _, rfl, _, rfl, t, tall, room, k2, si, he, b, rfl, ek19, by omega, st, sr, by omega, by omega, ls, lh, fun h1 h2 g l20 H20 s20 e20 => ?_, fun no l20 H20 s20 e20 => ?_, fun h1 h2 g l20 H20 s20 e20 => ?_⟩
        · rcases cs with ⟨_, _, _, e⟩ | ⟨n, _⟩ | ⟨_, _, n, _⟩
          · refine ⟨_, rfl, _, _, .list ((laidM t tall room si he b).map PyData.str), rfl, .lst (SqL.of e20) (strs_dp _), .lst (SqL.of (s20 _ _ e)) (strs_dp _), by rw [strs_depth]; decide, by rw [strs_mxl', laid_len]; omega, fun H21 s21 => ⟨_, rfl, ?_⟩⟩
            refine ifF (by simp) ?_
            exact ⟨(D19.same s20).same s21, rfl⟩
          · exact absurd ⟨h1, h2⟩ n
          · exact absurd g n
        · rcases cs with ⟨h1, h2, _, _⟩ | ⟨_, e⟩ | ⟨h1, h2, _, _⟩
          · exact absurd ⟨h1, h2⟩ no
          · refine ⟨_, rfl, _, _, .list ([true, false].map PyData.bool), rfl, .lst (SqL.of e20) (bools_dp [true, false]), .lst (SqL.of (s20 _ _ e)) (bools_dp _), by rw [bools_depth]; decide, by rw [bools_mxl']; decide, fun H21 s21 => ⟨_, rfl, ?_⟩⟩
            refine ifF (by simp) ?_
            exact ⟨(D19.same s20).same s21, rfl⟩
          · exact absurd ⟨h1, h2⟩ no
        · rcases cs with ⟨_, _, n, _⟩ | ⟨n, _⟩ | ⟨_, _, _, e⟩
          · exact absurd n g
          · exact absurd ⟨h1, h2⟩ n
          · refine ⟨_, rfl, _, _, .list ([false, true].map PyData.bool), rfl, .lst (SqL.of e20) (bools_dp [false, true]), .lst (SqL.of (s20 _ _ e)) (bools_dp _), by rw [bools_depth]; decide, by rw [bools_mxl']; decide, fun H21 s21 => ⟨_, rfl, ?_⟩⟩
            refine ifF (by simp) ?_
            exact ⟨(D19.same s20).same s21, rfl⟩
      rintro σ H20 ⟨D20, rfl⟩
      clear D19 cs ek19
      -- names left out, in other orders
      refine ⟨_, rfl, _, _, rfl, rfl, _, rfl, ?_⟩
      refine ite2 (fun c => ?_) (fun c => ?_)
      · have h1 : 0 < tall := of_decide_eq_true c
        refine ⟨_, rfl, _, _, rfl, rfl, _, rfl, ?_⟩
        refine ite2 (fun c2 => ?_) (fun c2 => ?_)
        · have h2 : 0 < room := of_decide_eq_true c2
          have gp : goodL "left" "top" := ⟨.inl rfl, .inl rfl⟩
          have gr : goodL "right" "bottom" := ⟨.inr (.inr rfl), .inr (.inr rfl)⟩
          have glp := good_len gp
          have glr := good_len gr
          have both : 1 ≤ tall ∧ 1 ≤ room := by omega
          refine ⟨_, rfl, _, rfl, _, rfl, t, tall, room, "left", "top", false, rfl, by omega, st, sr, by omega, by omega, glp.1, glp.2, fun _ _ _ l21 H21 s21 e21 => ?_, fun n => absurd both n, fun _ _ n => absurd gp n⟩
          refine ⟨_, rfl, _, rfl, _, rfl, (by show 3 ≤ sizeLine; decide), fun k22 n22 => ?_⟩
          have s22 := same_new n22 (.tup [.str "left", .str "top", .bl false])
          refine ⟨t, tall, room, k22, "left", "top", false, rfl, upd_same, gp, by omega, tok, by omega, by omega, by omega, by omega, fun l23 H23 s23 e23 => ?_⟩
          refine ⟨_, _, .list ((laidM t tall room "left" "top" false).map PyData.str), rfl, .lst (SqL.of (s23 _ _ (s22 _ _ e21))) (strs_dp _), .lst (SqL.of e23) (strs_dp _), by rw [strs_depth]; decide, by rw [strs_mxl', laid_len]; omega, fun H24 s24 => ⟨_, rfl, ?_⟩⟩
          refine ifF (by simp) ?_
          have D24 := (((D20.same s21).same s22).same s23).same s24
          clear s21 e21 s22 s23 e23 s24 n22
          refine ⟨_, rfl, _, rfl, _, rfl, rfl, rfl, t, tall, room, "left", "top", true, rfl, by omega, st, sr, by omega, by omega, glp.1, glp.2, fun _ _ _ l21 H25 s25 e25 => ?_, fun n => absurd both n, fun _ _ n => absurd gp n⟩
          refine ⟨_, rfl, _, rfl, _, rfl, (by show 3 ≤ sizeLine; decide), fun k22 n22 => ?_⟩
          have s26 := same_new n22 (.tup [.str "left", .str "top", .bl true])
          refine ⟨t, tall, room, k22, "left", "top", true, rfl, upd_same, gp, by omega, tok, by omega, by omega, by omega, by omega, fun l23 H27 s27 e27 => ?_⟩
          refine ⟨_, _, .list ((laidM t tall room "left" "top" true).map PyData.str), rfl, .lst (SqL.of (s27 _ _ (s26 _ _ e25))) (strs_dp _), .lst (SqL.of e27) (strs_dp _), by rw [strs_depth]; decide, by rw [strs_mxl', laid_len]; omega, fun H28 s28 => ⟨_, rfl, ?_⟩⟩
          refine ifF (by simp) ?_
          have D28 := (((D24.same s25).same s26).same s27).same s28
          clear s25 e25 s26 s27 e27 s28 n22
          refine ⟨_, rfl, _, rfl, _, rfl, (by show 3 ≤ sizeLine; decide), fun k29 n29 => ?_⟩
          have s29 := same_new n29 (.tup [.str "right", .str "bottom", .bl false])
          refine ⟨t, tall, room, k29, "right", "bottom", false, rfl, upd_same, gr, by omega, tok, by omega, by omega, by omega, by omega, fun l30 H30 s30 e30 => ?_⟩
          have D30 := (D28.same s29).same s30
          refine ⟨_, rfl, _, rfl, _, rfl, rfl, rfl, t, tall, room, "right", "bottom", false, rfl, by omega, st, sr, by omega, by omega, glr.1, glr.2, fun _ _ _ l31 H31 s31 e31 => ?_, fun n => absurd both n, fun _ _ n => absurd gr n⟩
          refine ⟨_, rfl, _, _, .list ((laidM t tall room "right" "bottom" false).map PyData.str), rfl, .lst (SqL.of e31) (strs_dp _), .lst (SqL.of (s31 _ _ e30)) (strs_dp _), by rw [strs_depth]; decide, by rw [strs_mxl', laid_len]; omega, fun H32 s32 => ⟨_, rfl, ?_⟩⟩
          refine ifF (by simp) ?_
          exact ⟨(D30.same s31).same s32, _, _, _, _, _, _, _, rfl⟩
        · exact ⟨D20, _, _, _, _, _, _, _, rfl⟩
      · refine ifF (by simp) ?_
        exact ⟨D20, _, _, _, _, _, _, _, rfl⟩
    rintro σ H2 ⟨D2, x2, x3, x4, x5, x6, x7, x8, rfl⟩
    exact k _
end
end K13

set_option Elab.async false
set_option linter.all false
set_option maxRecDepth 100000
set_option maxHeartbeats 4000000
namespace K13
open PySem L2 Gs
theorem all_mk {l : PySem.W.OpenLaw} {w : World} {K : PySem.W.Frag} {h : Heap} {mg : Str → Option Value} {fa : Addr} {cS cL cG aI aJ Dk_set_lines Dk_laid : Addr} {tB tL1 tL2 tSIDES0 tSIDES1 tSIDES2 tHEIGHTS0 tHEIGHTS1 tHEIGHTS2 : Tok} {od_SIDES od_HEIGHTS : Option Addr} {n_SIDES n_HEIGHTS : Nat} {sl_SIDES sl_HEIGHTS : Array (Option Value)} (X : K.In h) (G : h.Ns mainGlobals mg) (hfa : mg "law" = some (.ref fa))
    {f_check_wide : Addr} {od_check_wide an_check_wide : Option Addr} {sl_check_wide : Array (Option Value)} {oc_check_wide dc_check_wide pm_check_wide cd_check_wide ct_check_wide kV_check_wide : Value}
    (a_check_wide : PySem.W.nsIn K mainGlobals "check_wide" = some (some (.ref f_check_wide)))
    (l_check_wide : K.lookup f_check_wide = some ⟨oc_check_wide, od_check_wide, .func (PySem.W.fnOf "check_wide" "check_wide" (defArgs s_check_wide) (defBody s_check_wide) (defScope s_check_wide) .none kV_check_wide dc_check_wide pm_check_wide an_check_wide cd_check_wide ct_check_wide), sl_check_wide⟩)
    (c_check_wide : PySem.W.codeIn K cd_check_wide "check_wide" = true)
    (k_check_wide : PySem.W.keepIn K (.ref f_check_wide) = true)
    {f_check_look : Addr} {od_check_look an_check_look : Option Addr} {sl_check_look : Array (Option Value)} {oc_check_look dc_check_look pm_check_look cd_check_look ct_check_look kV_check_look : Value}
    (a_check_look : PySem.W.nsIn K mainGlobals "check_look" = some (some (.ref f_check_look)))
    (l_check_look : K.lookup f_check_look = some ⟨oc_check_look, od_check_look, .func (PySem.W.fnOf "check_look" "check_look" (defArgs s_check_look) (defBody s_check_look) (defScope s_check_look) .none kV_check_look dc_check_look pm_check_look an_check_look cd_check_look ct_check_look), sl_check_look⟩)
    (c_check_look : PySem.W.codeIn K cd_check_look "check_look" = true)
    (k_check_look : PySem.W.keepIn K (.ref f_check_look) = true)
    {f_words : Addr} {od_words an_words : Option Addr} {sl_words : Array (Option Value)} {oc_words dc_words pm_words cd_words ct_words kV_words : Value}
    (a_words : PySem.W.nsIn K mainGlobals "words" = some (some (.ref f_words)))
    (l_words : K.lookup f_words = some ⟨oc_words, od_words, .func (PySem.W.fnOf "words" "words" (defArgs s_words) (defBody s_words) (defScope s_words) .none kV_words dc_words pm_words an_words cd_words ct_words), sl_words⟩)
    (c_words : PySem.W.codeIn K cd_words "words" = true)
    (k_words : PySem.W.keepIn K (.ref f_words) = true)
    {f_pieces : Addr} {od_pieces an_pieces : Option Addr} {sl_pieces : Array (Option Value)} {oc_pieces dc_pieces pm_pieces cd_pieces ct_pieces kV_pieces : Value}
    (a_pieces : PySem.W.nsIn K mainGlobals "pieces" = some (some (.ref f_pieces)))
    (l_pieces : K.lookup f_pieces = some ⟨oc_pieces, od_pieces, .func (PySem.W.fnOf "pieces" "pieces" (defArgs s_pieces) (defBody s_pieces) (defScope s_pieces) .none kV_pieces dc_pieces pm_pieces an_pieces cd_pieces ct_pieces), sl_pieces⟩)
    (c_pieces : PySem.W.codeIn K cd_pieces "pieces" = true)
    (k_pieces : PySem.W.keepIn K (.ref f_pieces) = true)
    {f_set_lines : Addr} {od_set_lines an_set_lines : Option Addr} {sl_set_lines : Array (Option Value)} {oc_set_lines dc_set_lines pm_set_lines cd_set_lines ct_set_lines : Value}
    (a_set_lines : PySem.W.nsIn K mainGlobals "set_lines" = some (some (.ref f_set_lines)))
    (l_set_lines : K.lookup f_set_lines = some ⟨oc_set_lines, od_set_lines, .func (PySem.W.fnOf "set_lines" "set_lines" (defArgs s_set_lines) (defBody s_set_lines) (defScope s_set_lines) .none (.ref Dk_set_lines) dc_set_lines pm_set_lines an_set_lines cd_set_lines ct_set_lines), sl_set_lines⟩)
    (c_set_lines : PySem.W.codeIn K cd_set_lines "set_lines" = true)
    (k_set_lines : PySem.W.keepIn K (.ref f_set_lines) = true)
    {f_lead : Addr} {od_lead an_lead : Option Addr} {sl_lead : Array (Option Value)} {oc_lead dc_lead pm_lead cd_lead ct_lead kV_lead : Value}
    (a_lead : PySem.W.nsIn K mainGlobals "lead" = some (some (.ref f_lead)))
    (l_lead : K.lookup f_lead = some ⟨oc_lead, od_lead, .func (PySem.W.fnOf "lead" "lead" (defArgs s_lead) (defBody s_lead) (defScope s_lead) .none kV_lead dc_lead pm_lead an_lead cd_lead ct_lead), sl_lead⟩)
    (c_lead : PySem.W.codeIn K cd_lead "lead" = true)
    (k_lead : PySem.W.keepIn K (.ref f_lead) = true)
    {f_line_on : Addr} {od_line_on an_line_on : Option Addr} {sl_line_on : Array (Option Value)} {oc_line_on dc_line_on pm_line_on cd_line_on ct_line_on kV_line_on : Value}
    (a_line_on : PySem.W.nsIn K mainGlobals "line_on" = some (some (.ref f_line_on)))
    (l_line_on : K.lookup f_line_on = some ⟨oc_line_on, od_line_on, .func (PySem.W.fnOf "line_on" "line_on" (defArgs s_line_on) (defBody s_line_on) (defScope s_line_on) .none kV_line_on dc_line_on pm_line_on an_line_on cd_line_on ct_line_on), sl_line_on⟩)
    (c_line_on : PySem.W.codeIn K cd_line_on "line_on" = true)
    (k_line_on : PySem.W.keepIn K (.ref f_line_on) = true)
    {f_spread : Addr} {od_spread an_spread : Option Addr} {sl_spread : Array (Option Value)} {oc_spread dc_spread pm_spread cd_spread ct_spread kV_spread : Value}
    (a_spread : PySem.W.nsIn K mainGlobals "spread" = some (some (.ref f_spread)))
    (l_spread : K.lookup f_spread = some ⟨oc_spread, od_spread, .func (PySem.W.fnOf "spread" "spread" (defArgs s_spread) (defBody s_spread) (defScope s_spread) .none kV_spread dc_spread pm_spread an_spread cd_spread ct_spread), sl_spread⟩)
    (c_spread : PySem.W.codeIn K cd_spread "spread" = true)
    (k_spread : PySem.W.keepIn K (.ref f_spread) = true)
    {f_laid : Addr} {od_laid an_laid : Option Addr} {sl_laid : Array (Option Value)} {oc_laid dc_laid pm_laid cd_laid ct_laid : Value}
    (a_laid : PySem.W.nsIn K mainGlobals "laid" = some (some (.ref f_laid)))
    (l_laid : K.lookup f_laid = some ⟨oc_laid, od_laid, .func (PySem.W.fnOf "laid" "laid" (defArgs s_laid) (defBody s_laid) (defScope s_laid) .none (.ref Dk_laid) dc_laid pm_laid an_laid cd_laid ct_laid), sl_laid⟩)
    (c_laid : PySem.W.codeIn K cd_laid "laid" = true)
    (k_laid : PySem.W.keepIn K (.ref f_laid) = true)
    {f_begin : Addr} {od_begin an_begin : Option Addr} {sl_begin : Array (Option Value)} {oc_begin dc_begin pm_begin cd_begin ct_begin kV_begin : Value}
    (a_begin : PySem.W.nsIn K mainGlobals "_law_begin" = some (some (.ref f_begin)))
    (l_begin : K.lookup f_begin = some ⟨oc_begin, od_begin, .func (PySem.W.fnOf "_law_begin" "_law_begin" (defArgs s_begin) (defBody s_begin) (defScope s_begin) .none kV_begin dc_begin pm_begin an_begin cd_begin ct_begin), sl_begin⟩)
    (c_begin : PySem.W.codeIn K cd_begin "_law_begin" = true)
    (k_begin : PySem.W.keepIn K (.ref f_begin) = true)
    {f_pick : Addr} {od_pick an_pick : Option Addr} {sl_pick : Array (Option Value)} {oc_pick dc_pick pm_pick cd_pick ct_pick kV_pick : Value}
    (a_pick : PySem.W.nsIn K mainGlobals "_law_pick" = some (some (.ref f_pick)))
    (l_pick : K.lookup f_pick = some ⟨oc_pick, od_pick, .func (PySem.W.fnOf "_law_pick" "_law_pick" (defArgs s_pick) (defBody s_pick) (defScope s_pick) .none kV_pick dc_pick pm_pick an_pick cd_pick ct_pick), sl_pick⟩)
    (c_pick : PySem.W.codeIn K cd_pick "_law_pick" = true)
    (k_pick : PySem.W.keepIn K (.ref f_pick) = true)
    {f_one : Addr} {od_one an_one : Option Addr} {sl_one : Array (Option Value)} {oc_one dc_one pm_one cd_one ct_one kV_one : Value}
    (a_one : PySem.W.nsIn K mainGlobals "_law_one" = some (some (.ref f_one)))
    (l_one : K.lookup f_one = some ⟨oc_one, od_one, .func (PySem.W.fnOf "_law_one" "_law_one" (defArgs s_one) (defBody s_one) (defScope s_one) .none kV_one dc_one pm_one an_one cd_one ct_one), sl_one⟩)
    (c_one : PySem.W.codeIn K cd_one "_law_one" = true)
    (k_one : PySem.W.keepIn K (.ref f_one) = true)
    {f_text : Addr} {od_text an_text : Option Addr} {sl_text : Array (Option Value)} {oc_text dc_text pm_text cd_text ct_text kV_text : Value}
    (a_text : PySem.W.nsIn K mainGlobals "_law_text" = some (some (.ref f_text)))
    (l_text : K.lookup f_text = some ⟨oc_text, od_text, .func (PySem.W.fnOf "_law_text" "_law_text" (defArgs s_text) (defBody s_text) (defScope s_text) .none kV_text dc_text pm_text an_text cd_text ct_text), sl_text⟩)
    (c_text : PySem.W.codeIn K cd_text "_law_text" = true)
    (k_text : PySem.W.keepIn K (.ref f_text) = true)
    {f_look : Addr} {od_look an_look : Option Addr} {sl_look : Array (Option Value)} {oc_look dc_look pm_look cd_look ct_look kV_look : Value}
    (a_look : PySem.W.nsIn K mainGlobals "_law_look" = some (some (.ref f_look)))
    (l_look : K.lookup f_look = some ⟨oc_look, od_look, .func (PySem.W.fnOf "_law_look" "_law_look" (defArgs s_look) (defBody s_look) (defScope s_look) .none kV_look dc_look pm_look an_look cd_look ct_look), sl_look⟩)
    (c_look : PySem.W.codeIn K cd_look "_law_look" = true)
    (k_look : PySem.W.keepIn K (.ref f_look) = true)
    {f_same : Addr} {od_same an_same : Option Addr} {sl_same : Array (Option Value)} {oc_same dc_same pm_same cd_same ct_same kV_same : Value}
    (a_same : PySem.W.nsIn K mainGlobals "_law_same" = some (some (.ref f_same)))
    (l_same : K.lookup f_same = some ⟨oc_same, od_same, .func (PySem.W.fnOf "_law_same" "_law_same" (defArgs s_same) (defBody s_same) (defScope s_same) .none kV_same dc_same pm_same an_same cd_same ct_same), sl_same⟩)
    (c_same : PySem.W.codeIn K cd_same "_law_same" = true)
    (k_same : PySem.W.keepIn K (.ref f_same) = true)
    {f_parts : Addr} {od_parts an_parts : Option Addr} {sl_parts : Array (Option Value)} {oc_parts dc_parts pm_parts cd_parts ct_parts kV_parts : Value}
    (a_parts : PySem.W.nsIn K mainGlobals "_law_parts" = some (some (.ref f_parts)))
    (l_parts : K.lookup f_parts = some ⟨oc_parts, od_parts, .func (PySem.W.fnOf "_law_parts" "_law_parts" (defArgs s_parts) (defBody s_parts) (defScope s_parts) .none kV_parts dc_parts pm_parts an_parts cd_parts ct_parts), sl_parts⟩)
    (c_parts : PySem.W.codeIn K cd_parts "_law_parts" = true)
    (k_parts : PySem.W.keepIn K (.ref f_parts) = true)
    {f_lines : Addr} {od_lines an_lines : Option Addr} {sl_lines : Array (Option Value)} {oc_lines dc_lines pm_lines cd_lines ct_lines kV_lines : Value}
    (a_lines : PySem.W.nsIn K mainGlobals "_law_lines" = some (some (.ref f_lines)))
    (l_lines : K.lookup f_lines = some ⟨oc_lines, od_lines, .func (PySem.W.fnOf "_law_lines" "_law_lines" (defArgs s_lines) (defBody s_lines) (defScope s_lines) .none kV_lines dc_lines pm_lines an_lines cd_lines ct_lines), sl_lines⟩)
    (c_lines : PySem.W.codeIn K cd_lines "_law_lines" = true)
    (k_lines : PySem.W.keepIn K (.ref f_lines) = true)
    {f_start : Addr} {od_start an_start : Option Addr} {sl_start : Array (Option Value)} {oc_start dc_start pm_start cd_start ct_start kV_start : Value}
    (a_start : PySem.W.nsIn K mainGlobals "_law_start" = some (some (.ref f_start)))
    (l_start : K.lookup f_start = some ⟨oc_start, od_start, .func (PySem.W.fnOf "_law_start" "_law_start" (defArgs s_start) (defBody s_start) (defScope s_start) .none kV_start dc_start pm_start an_start cd_start ct_start), sl_start⟩)
    (c_start : PySem.W.codeIn K cd_start "_law_start" = true)
    (k_start : PySem.W.keepIn K (.ref f_start) = true)
    {f_set : Addr} {od_set an_set : Option Addr} {sl_set : Array (Option Value)} {oc_set dc_set pm_set cd_set ct_set kV_set : Value}
    (a_set : PySem.W.nsIn K mainGlobals "_law_set" = some (some (.ref f_set)))
    (l_set : K.lookup f_set = some ⟨oc_set, od_set, .func (PySem.W.fnOf "_law_set" "_law_set" (defArgs s_set) (defBody s_set) (defScope s_set) .none kV_set dc_set pm_set an_set cd_set ct_set), sl_set⟩)
    (c_set : PySem.W.codeIn K cd_set "_law_set" = true)
    (k_set : PySem.W.keepIn K (.ref f_set) = true)
    {f_told : Addr} {od_told an_told : Option Addr} {sl_told : Array (Option Value)} {oc_told dc_told pm_told cd_told ct_told kV_told : Value}
    (a_told : PySem.W.nsIn K mainGlobals "_law_told" = some (some (.ref f_told)))
    (l_told : K.lookup f_told = some ⟨oc_told, od_told, .func (PySem.W.fnOf "_law_told" "_law_told" (defArgs s_told) (defBody s_told) (defScope s_told) .none kV_told dc_told pm_told an_told cd_told ct_told), sl_told⟩)
    (c_told : PySem.W.codeIn K cd_told "_law_told" = true)
    (k_told : PySem.W.keepIn K (.ref f_told) = true)
    {f_law : Addr} {od_law an_law : Option Addr} {sl_law : Array (Option Value)} {oc_law dc_law pm_law cd_law ct_law kV_law : Value}
    (a_law : PySem.W.nsIn K mainGlobals "law" = some (some (.ref f_law)))
    (l_law : K.lookup f_law = some ⟨oc_law, od_law, .func (PySem.W.fnOf "law" "law" (defArgs s_law) (defBody s_law) (defScope s_law) .none kV_law dc_law pm_law an_law cd_law ct_law), sl_law⟩)
    (c_law : PySem.W.codeIn K cd_law "law" = true)
    (k_law : PySem.W.keepIn K (.ref f_law) = true)
    (z_max : PySem.W.nsIn K mainGlobals "max" = some none)
    (z_min : PySem.W.nsIn K mainGlobals "min" = some none)
    (z_len : PySem.W.nsIn K mainGlobals "len" = some none)
    (z_list : PySem.W.nsIn K mainGlobals "list" = some none)
    (z_isinstance : PySem.W.nsIn K mainGlobals "isinstance" = some none)
    (z_bool : PySem.W.nsIn K mainGlobals "bool" = some none)
    (z_int : PySem.W.nsIn K mainGlobals "int" = some none)
    (z_str : PySem.W.nsIn K mainGlobals "str" = some none)
    (z_tuple : PySem.W.nsIn K mainGlobals "tuple" = some none)
    (z_range : PySem.W.nsIn K mainGlobals "range" = some none)
    (z_all : PySem.W.nsIn K mainGlobals "all" = some none)
    (z_sum : PySem.W.nsIn K mainGlobals "sum" = some none)
    (z_sorted : PySem.W.nsIn K mainGlobals "sorted" = some none)
    (z_any : PySem.W.nsIn K mainGlobals "any" = some none)
    (z_dict : PySem.W.nsIn K mainGlobals "dict" = some none)
    (z_repr : PySem.W.nsIn K mainGlobals "repr" = some none)
    (g_BLANK : PySem.W.nsIn K mainGlobals "BLANK" = some (some (.str " " tB)))
    (g_SIDES : PySem.W.nsIn K mainGlobals "SIDES" = some (some (.ref aI)))
    (t_SIDES : K.lookup aI = some ⟨.type "tuple", od_SIDES, .seq #[.str "left" tSIDES0, .str "middle" tSIDES1, .str "right" tSIDES2] n_SIDES, sl_SIDES⟩)
    (g_HEIGHTS : PySem.W.nsIn K mainGlobals "HEIGHTS" = some (some (.ref aJ)))
    (t_HEIGHTS : K.lookup aJ = some ⟨.type "tuple", od_HEIGHTS, .seq #[.str "top" tHEIGHTS0, .str "middle" tHEIGHTS1, .str "bottom" tHEIGHTS2] n_HEIGHTS, sl_HEIGHTS⟩)
    (g_set_lines_wrap : PySem.W.nsIn K Dk_set_lines "wrap" = some (some (.bool false)))
    (g_laid_side : PySem.W.nsIn K Dk_laid "side" = some (some (.str "left" tL1)))
    (g_laid_height : PySem.W.nsIn K Dk_laid "height" = some (some (.str "top" tL2)))
    (g_laid_wrap : PySem.W.nsIn K Dk_laid "wrap" = some (some (.bool false)))
    (io : PySem.W.specialIn K (.builtin "object.__class__") "__get__" = some (some (.builtin "getset_descriptor.__get__")))
    (it : PySem.W.takesIn K (.builtin "object.__class__") = some true)
    (e_BadSize : PySem.W.nsIn K mainGlobals "BadSize" = some (some (.ref cS)))
    (ex_BadSize : PySem.W.excIn K cS veL "ValueError.__new__" = true)
    (ek_BadSize : PySem.W.keepIn K (.ref cS) = true)
    (eb_BadSize : PySem.W.subIn K (.ref cS) (.type "BaseException") = some true)
    (et_BadSize : PySem.W.typeIn K (.ref cS) = some (.type "type"))
    (ec_BadSize : PySem.W.isClsIn K cS = true)
    (es_BadSize : PySem.W.subIn K (.ref cS) (.ref cS) = some true)
    (e_BadLook : PySem.W.nsIn K mainGlobals "BadLook" = some (some (.ref cL)))
    (ex_BadLook : PySem.W.excIn K cL veL "ValueError.__new__" = true)
    (ek_BadLook : PySem.W.keepIn K (.ref cL) = true)
    (eb_BadLook : PySem.W.subIn K (.ref cL) (.type "BaseException") = some true)
    (et_BadLook : PySem.W.typeIn K (.ref cL) = some (.type "type"))
    (ec_BadLook : PySem.W.isClsIn K cL = true)
    (es_BadLook : PySem.W.subIn K (.ref cL) (.ref cL) = some true)
    (e_GridError : PySem.W.nsIn K mainGlobals "GridError" = some (some (.ref cG)))
    (ex_GridError : PySem.W.excIn K cG veL "ValueError.__new__" = true)
    (ek_GridError : PySem.W.keepIn K (.ref cG) = true)
    (eb_GridError : PySem.W.subIn K (.ref cG) (.type "BaseException") = some true)
    (et_GridError : PySem.W.typeIn K (.ref cG) = some (.type "type"))
    (ec_GridError : PySem.W.isClsIn K cG = true)
    (es_GridError : PySem.W.subIn K (.ref cG) (.ref cG) = some true)
    (xg_BadSize : PySem.W.findIn K (.ref cS) "__getattribute__" = some (some (.builtin "BaseException.__getattribute__")))
    (xk_BadSize : PySem.W.findIn K (.ref cS) "__getattr__" = some none)
    (xd_BadSize : PySem.W.hasDictIn K cS = true)
    (xc_BadSize : PySem.W.findIn K (.ref cS) "__class__" = some (some (.builtin "object.__class__")))
    (xm_BadSize : PySem.W.mroIn K cS (.type "object") = some true)
    (xg_BadLook : PySem.W.findIn K (.ref cL) "__getattribute__" = some (some (.builtin "BaseException.__getattribute__")))
    (xk_BadLook : PySem.W.findIn K (.ref cL) "__getattr__" = some none)
    (xd_BadLook : PySem.W.hasDictIn K cL = true)
    (xc_BadLook : PySem.W.findIn K (.ref cL) "__class__" = some (some (.builtin "object.__class__")))
    (xm_BadLook : PySem.W.mroIn K cL (.type "object") = some true)
    (u1 : PySem.W.subIn K (.ref cS) (.ref cG) = some true)
    (u2 : PySem.W.subIn K (.ref cL) (.ref cG) = some true)
    (u3 : PySem.W.subIn K (.ref cS) (.ref cL) = some false)
    (u4 : PySem.W.subIn K (.ref cL) (.ref cS) = some false)
    : ∃ fd : FuncData, (∀ (s : Shared) (v : Value), BindsTo s fd ⟨[v], []⟩ [("_law_script", v)]) ∧ ∀ base : Heap, K.In base → base.Ns mainGlobals mg → FnOk l.prog w K mg base CX0 6 fa fd ["_law_script"] (spLaw K) := by
  have e := hfa.symm.trans (PySem.W.mg_of X G a_law)
  cases e
  have T : Tx K mg cS cL cG aI aJ tB := ⟨PySem.W.mg_none_of X G z_max, PySem.W.mg_none_of X G z_min, PySem.W.mg_none_of X G z_len, PySem.W.mg_none_of X G z_list, PySem.W.mg_none_of X G z_isinstance, PySem.W.mg_none_of X G z_bool, PySem.W.mg_none_of X G z_int, PySem.W.mg_none_of X G z_str, PySem.W.mg_none_of X G z_tuple, PySem.W.mg_none_of X G z_range, PySem.W.mg_none_of X G z_all, PySem.W.mg_none_of X G z_sum, PySem.W.mg_none_of X G z_sorted, PySem.W.mg_none_of X G z_any, PySem.W.mg_none_of X G z_dict, PySem.W.mg_none_of X G z_repr, ⟨PySem.W.mg_of X G e_BadSize, ex_BadSize, ek_BadSize, eb_BadSize, et_BadSize, ec_BadSize, es_BadSize⟩, ⟨PySem.W.mg_of X G e_BadLook, ex_BadLook, ek_BadLook, eb_BadLook, et_BadLook, ec_BadLook, es_BadLook⟩, ⟨PySem.W.mg_of X G e_GridError, ex_GridError, ek_GridError, eb_GridError, et_GridError, ec_GridError, es_GridError⟩, PySem.W.mg_of X G g_BLANK, PySem.W.mg_of X G g_SIDES, fun H => .inr ⟨_, _, _, t_SIDES, rfl, rfl, by show 3 ≤ sizeLine; decide, .cons ⟨_, rfl⟩ (.cons ⟨_, rfl⟩ (.cons ⟨_, rfl⟩ .nil))⟩, PySem.W.mg_of X G g_HEIGHTS, fun H => .inr ⟨_, _, _, t_HEIGHTS, rfl, rfl, by show 3 ≤ sizeLine; decide, .cons ⟨_, rfl⟩ (.cons ⟨_, rfl⟩ (.cons ⟨_, rfl⟩ .nil))⟩, ⟨xg_BadSize, xk_BadSize, eb_BadSize, xd_BadSize, xc_BadSize, io, it, xm_BadSize⟩, ⟨xg_BadLook, xk_BadLook, eb_BadLook, xd_BadLook, xc_BadLook, io, it, xm_BadLook⟩, u1, u2, u3, u4⟩
  have F_check_wide := fun_mk (st := s_check_wide) l_check_wide c_check_wide k_check_wide
  have b_check_wide := F_check_wide.binds (ps := ["wide"]) fun _ _ _ _ _ _ us hl => match us, hl with | [_], _ => rfl
  have m_check_wide := PySem.W.mg_of X G a_check_wide
  have F_check_look := fun_mk (st := s_check_look) l_check_look c_check_look k_check_look
  have b_check_look := F_check_look.binds (ps := ["side", "height"]) fun _ _ _ _ _ _ us hl => match us, hl with | [_, _], _ => rfl
  have m_check_look := PySem.W.mg_of X G a_check_look
  have F_words := fun_mk (st := s_words) l_words c_words k_words
  have b_words := F_words.binds (ps := ["text"]) fun _ _ _ _ _ _ us hl => match us, hl with | [_], _ => rfl
  have m_words := PySem.W.mg_of X G a_words
  have F_pieces := fun_mk (st := s_pieces) l_pieces c_pieces k_pieces
  have b_pieces := F_pieces.binds (ps := ["word", "wide"]) fun _ _ _ _ _ _ us hl => match us, hl with | [_, _], _ => rfl
  have m_pieces := PySem.W.mg_of X G a_pieces
  have F_set_lines := fun_mk (st := s_set_lines) l_set_lines c_set_lines k_set_lines
  have m_set_lines := PySem.W.mg_of X G a_set_lines
  have F_lead := fun_mk (st := s_lead) l_lead c_lead k_lead
  have b_lead := F_lead.binds (ps := ["free", "stand"]) fun _ _ _ _ _ _ us hl => match us, hl with | [_, _], _ => rfl
  have m_lead := PySem.W.mg_of X G a_lead
  have F_line_on := fun_mk (st := s_line_on) l_line_on c_line_on k_line_on
  have b_line_on := F_line_on.binds (ps := ["lines", "row", "high", "height"]) fun _ _ _ _ _ _ us hl => match us, hl with | [_, _, _, _], _ => rfl
  have m_line_on := PySem.W.mg_of X G a_line_on
  have F_spread := fun_mk (st := s_spread) l_spread c_spread k_spread
  have b_spread := F_spread.binds (ps := ["line", "wide", "side"]) fun _ _ _ _ _ _ us hl => match us, hl with | [_, _, _], _ => rfl
  have m_spread := PySem.W.mg_of X G a_spread
  have F_laid := fun_mk (st := s_laid) l_laid c_laid k_laid
  have m_laid := PySem.W.mg_of X G a_laid
  have F_begin := fun_mk (st := s_begin) l_begin c_begin k_begin
  have b_begin := F_begin.binds (ps := ["_law_script"]) fun _ _ _ _ _ _ us hl => match us, hl with | [_], _ => rfl
  have m_begin := PySem.W.mg_of X G a_begin
  have F_pick := fun_mk (st := s_pick) l_pick c_pick k_pick
  have b_pick := F_pick.binds (ps := ["_law_draw", "_law_many"]) fun _ _ _ _ _ _ us hl => match us, hl with | [_, _], _ => rfl
  have m_pick := PySem.W.mg_of X G a_pick
  have F_one := fun_mk (st := s_one) l_one c_one k_one
  have b_one := F_one.binds (ps := ["_law_draw", "_law_some"]) fun _ _ _ _ _ _ us hl => match us, hl with | [_, _], _ => rfl
  have m_one := PySem.W.mg_of X G a_one
  have F_text := fun_mk (st := s_text) l_text c_text k_text
  have b_text := F_text.binds (ps := ["_law_draw", "_law_most"]) fun _ _ _ _ _ _ us hl => match us, hl with | [_, _], _ => rfl
  have m_text := PySem.W.mg_of X G a_text
  have F_look := fun_mk (st := s_look) l_look c_look k_look
  have b_look := F_look.binds (ps := ["_law_draw"]) fun _ _ _ _ _ _ us hl => match us, hl with | [_], _ => rfl
  have m_look := PySem.W.mg_of X G a_look
  have F_same := fun_mk (st := s_same) l_same c_same k_same
  have b_same := F_same.binds (ps := ["_law_found", "_law_due"]) fun _ _ _ _ _ _ us hl => match us, hl with | [_, _], _ => rfl
  have m_same := PySem.W.mg_of X G a_same
  have F_parts := fun_mk (st := s_parts) l_parts c_parts k_parts
  have b_parts := F_parts.binds (ps := ["_law_text_here"]) fun _ _ _ _ _ _ us hl => match us, hl with | [_], _ => rfl
  have m_parts := PySem.W.mg_of X G a_parts
  have F_lines := fun_mk (st := s_lines) l_lines c_lines k_lines
  have b_lines := F_lines.binds (ps := ["_law_text_here", "_law_room", "_law_broken"]) fun _ _ _ _ _ _ us hl => match us, hl with | [_, _, _], _ => rfl
  have m_lines := PySem.W.mg_of X G a_lines
  have F_start := fun_mk (st := s_start) l_start c_start k_start
  have b_start := F_start.binds (ps := ["_law_free", "_law_place"]) fun _ _ _ _ _ _ us hl => match us, hl with | [_, _], _ => rfl
  have m_start := PySem.W.mg_of X G a_start
  have F_set := fun_mk (st := s_set) l_set c_set k_set
  have b_set := F_set.binds (ps := ["_law_text_here", "_law_tall", "_law_room", "_law_look_here"]) fun _ _ _ _ _ _ us hl => match us, hl with | [_, _, _, _], _ => rfl
  have m_set := PySem.W.mg_of X G a_set
  have F_told := fun_mk (st := s_told) l_told c_told k_told
  have b_told := F_told.binds (ps := ["_law_text_here", "_law_tall", "_law_room", "_law_look_here"]) fun _ _ _ _ _ _ us hl => match us, hl with | [_, _, _, _], _ => rfl
  have m_told := PySem.W.mg_of X G a_told
  have F_law := fun_mk (st := s_law) l_law c_law k_law
  refine ⟨PySem.W.fnOf "law" "law" (defArgs s_law) (defBody s_law) (defScope s_law) .none kV_law dc_law pm_law an_law cd_law ct_law, fun s v => .of_eq rfl, fun base _ _ => ?_⟩
  have D_begin : Dn l.prog w K mg base CX0 1 "_law_begin" ["_law_script"] (spBegin K) := ⟨_, _, ok_begin F_begin T, m_begin, k_begin, b_begin⟩
  have D_pick : Dn l.prog w K mg base CX0 1 "_law_pick" ["_law_draw", "_law_many"] spPickL := ⟨_, _, ok_pickL F_pick T, m_pick, k_pick, b_pick⟩
  have D_check_wide : Dn l.prog w K mg base (L2.CX l.prog w) 1 "check_wide" ["wide"] (spWide cS) := ⟨_, _, ok_wide F_check_wide T, m_check_wide, k_check_wide, b_check_wide⟩
  have D_check_look : Dn l.prog w K mg base (L2.CX l.prog w) 1 "check_look" ["side", "height"] (spLookC cL) := ⟨_, _, ok_look_c F_check_look T, m_check_look, k_check_look, b_check_look⟩
  have D_words : Dn l.prog w K mg base CX0 1 "words" ["text"] spWords := ⟨_, _, ok_words F_words T, m_words, k_words, b_words⟩
  have D_pieces : Dn l.prog w K mg base CX0 1 "pieces" ["word", "wide"] spPcs := ⟨_, _, ok_pieces F_pieces T, m_pieces, k_pieces, b_pieces⟩
  have okS := ok_set_lines (P := l.prog) (w := w) (base := base) F_set_lines T D_check_wide D_words D_pieces
  have K_set_lines_wrap : Kn l.prog w K mg base (L2.CX l.prog w) 2 "set_lines" ["text", "wide", "wrap"] 2 ["wrap"] (fun vs zs => vs ++ zs) (spSetL cS) := ⟨_, _, _, okS, m_set_lines, k_set_lines, ⟨fun s us ws _ l1 l2 => .of_eq (match us, ws, l1, l2 with | [_, _], [_], _, _ => rfl), fun r1 r2 => Vals.append r1 r2⟩⟩
  have D_lead : Dn l.prog w K mg base CX0 1 "lead" ["free", "stand"] spLead := ⟨_, _, ok_lead F_lead T, m_lead, k_lead, b_lead⟩
  have D_line_on : Dn l.prog w K mg base CX0 2 "line_on" ["lines", "row", "high", "height"] spLineOn := ⟨_, _, ok_line_on F_line_on T D_lead, m_line_on, k_line_on, b_line_on⟩
  have D_spread : Dn l.prog w K mg base CX0 2 "spread" ["line", "wide", "side"] spSpread := ⟨_, _, ok_spread F_spread T D_lead, m_spread, k_spread, b_spread⟩
  have okL := ok_laid (P := l.prog) (w := w) (base := base) F_laid T D_check_wide D_check_look K_set_lines_wrap D_line_on D_spread
  have FD_laid : FunD K "laid" "laid" (defArgs s_laid) (defBody s_laid) (defScope s_laid) [] [("side", .str "left"), ("height", .str "top"), ("wrap", .bl false)] f_laid _ := ⟨⟨_, _, _, _, _, _, _, _, _, _, rfl, l_laid, c_laid, .inl ⟨rfl, rfl⟩, .inr ⟨Dk_laid, rfl, fun q hq => by simp only [List.mem_cons, List.mem_nil_iff, or_false] at hq; rcases hq with rfl | rfl | rfl; exact ⟨_, g_laid_side, ⟨_, rfl⟩⟩; exact ⟨_, g_laid_height, ⟨_, rfl⟩⟩; exact ⟨_, g_laid_wrap, rfl⟩⟩⟩, k_laid⟩
  obtain ⟨ds_laid, vds_laid, bds_laid⟩ := FD_laid.binds0 (ps := ["text", "high", "wide", "side", "height", "wrap"]) 3 (by simp) rfl (fun D doc pm an cdv ct us ks l1 l2 => match us, ks, l1, l2 with | [_, _, _], [_, _, _], _, _ => ⟨_, _, _, _, _, _, rfl, rfl, ⟨_, _, _, _, _, _, rfl, rfl, ⟨_, _, _, _, _, _, rfl, rfl, rfl⟩⟩⟩)
  have E_laid : Dd l.prog w K mg base (L2.CX l.prog w) 3 "laid" ["text", "high", "wide", "side", "height", "wrap"] [.str "left", .str "top", .bl false] (spLaid cS cL) := ⟨_, _, ds_laid, okL, m_laid, k_laid, vds_laid, bds_laid⟩
  have K_laid_wrap_height_side : Kn l.prog w K mg base (L2.CX l.prog w) 3 "laid" ["text", "high", "wide", "side", "height", "wrap"] 3 ["wrap", "height", "side"] (fun vs zs => vs ++ zs.reverse) (spLaid cS cL) := ⟨_, _, (fun us ws => us ++ ws.reverse), okL, m_laid, k_laid, ⟨fun s us ws _ l1 l2 => .of_eq (match us, ws, l1, l2 with | [_, _, _], [_, _, _], _, _ => rfl), fun r1 r2 => Vals.append r1 (Vals.rev r2)⟩⟩
  obtain ⟨mv1, kb1⟩ := L2.FunD.kbinds0 (ps := ["text", "high", "wide", "side", "height", "wrap"]) FD_laid 3 ["wrap"] [("side", .str "left"), ("height", .str "top")] (fun vs mv ws => vs ++ mv ++ ws) (by simp) (by simp) (fun r1 r2 r3 => Vals.append (Vals.append r1 r2) r3) (fun D doc pm an cdv ct us mv ws l1 l2 l3 => match us, mv, ws, l1, l2, l3 with | [_, _, _], [_, _], [_], _, _, _ => ⟨_, _, _, _, _, _, rfl, rfl, ⟨_, _, _, _, _, _, rfl, rfl, rfl⟩⟩)
  have K_laid_wrap : Kn l.prog w K mg base (L2.CX l.prog w) 3 "laid" ["text", "high", "wide", "side", "height", "wrap"] 3 ["wrap"] (fun vs zs => vs ++ [.str "left", .str "top"] ++ zs) (spLaid cS cL) := ⟨_, _, _, okL, m_laid, k_laid, kb1⟩
  obtain ⟨mv2, kb2⟩ := L2.FunD.kbinds0 (ps := ["text", "high", "wide", "side", "height", "wrap"]) FD_laid 1 ["wide", "high", "height", "side"] [("wrap", .bl false)] (fun vs mv ws => gW vs mv ws) (by simp) (by simp) (fun r1 r2 r3 => gW_rel r1 r2 r3) (fun D doc pm an cdv ct us mv ws l1 l2 l3 => match us, mv, ws, l1, l2, l3 with | [_], [_], [_, _, _, _], _, _, _ => ⟨_, _, _, _, _, _, rfl, rfl, rfl⟩)
  have K_laid_wide_high_height_side : Kn l.prog w K mg base (L2.CX l.prog w) 3 "laid" ["text", "high", "wide", "side", "height", "wrap"] 1 ["wide", "high", "height", "side"] (fun vs zs => gW vs [.bl false] zs) (spLaid cS cL) := ⟨_, _, _, okL, m_laid, k_laid, kb2⟩
  have D_one : Dn l.prog w K mg base CX0 2 "_law_one" ["_law_draw", "_law_some"] spOneT := ⟨_, _, ok_one F_one T D_pick, m_one, k_one, b_one⟩
  have D_text : Dn l.prog w K mg base CX0 3 "_law_text" ["_law_draw", "_law_most"] spTextD := ⟨_, _, ok_text F_text T D_pick D_one, m_text, k_text, b_text⟩
  have D_look : Dn l.prog w K mg base CX0 2 "_law_look" ["_law_draw"] spLookD := ⟨_, _, ok_look F_look T D_pick, m_look, k_look, b_look⟩
  have D_same := same_all (P := l.prog) (w := w) (base := base) F_same T b_same m_same k_same
  have D_parts : Dn l.prog w K mg base CX0 1 "_law_parts" ["_law_text_here"] spWords := ⟨_, _, ok_parts F_parts T, m_parts, k_parts, b_parts⟩
  have D_lines : Dn l.prog w K mg base CX0 2 "_law_lines" ["_law_text_here", "_law_room", "_law_broken"] spLLines := ⟨_, _, ok_lines F_lines T D_parts, m_lines, k_lines, b_lines⟩
  have D_start : Dn l.prog w K mg base CX0 1 "_law_start" ["_law_free", "_law_place"] spStart := ⟨_, _, ok_start F_start T, m_start, k_start, b_start⟩
  have D_set : Dn l.prog w K mg base CX0 3 "_law_set" ["_law_text_here", "_law_tall", "_law_room", "_law_look_here"] spSetD := ⟨_, _, ok_setd F_set T D_lines D_start, m_set, k_set, b_set⟩
  have D_told : Dn l.prog w K mg base CX0 4 "_law_told" ["_law_text_here", "_law_tall", "_law_room", "_law_look_here"] spTold13 := ⟨_, _, ok_told F_told T K_laid_wrap_height_side, m_told, k_told, b_told⟩
  exact ok_law F_law T D_begin D_pick (D_same 3) D_text D_look D_set D_told E_laid K_laid_wrap K_laid_wide_high_height_side
theorem walk {l : PySem.W.OpenLaw} {q : Program} {loose : List Str} {XP : (Str → Option Value) → Heap → Prop} {YP : World → Heap → Prop} {d : DefRec} {K : Params → PySem.W.Frag} (hn : l.most = some 63) (hdf : d.params.defaults = [])
    (hY : ∀ (w : World) (h : Heap), YP w h → (K w.params).In h)
    (F : ∀ (w : World) (mg : Str → Option Value) (fa : Addr) (h : Heap), (K w.params).In h → h.Ns mainGlobals mg → mg d.name = some (.ref fa) →
      ∃ fd : FuncData, (∀ (s : Shared) (u : Value), BindsTo s fd ⟨[u], []⟩ [("_law_script", u)]) ∧ ∀ base : Heap, (K w.params).In base → base.Ns mainGlobals mg → FnOk l.prog w (K w.params) mg base CX0 6 fa fd ["_law_script"] (spLaw (K w.params))) :
    PySem.W.WalkO q loose XP YP l.row.toRowW d [] (fun f vs => PySem.call f vs) :=
  L2.walk_of (n := 63) (k := 6) (x := "_law_script") (CX := fun _ => CX0) (sp := fun w => spLaw (K w.params)) hn (by decide) hdf ⟨rfl, by decide, by decide⟩ hY F (fun _ _ a ns hl _ hS => ⟨a, ns, rfl, hS, hl, fun _ => rfl⟩) fun _ _ _ _ _ z => z
end K13
open PySem PySem.W PyProof.Rows
set_option maxRecDepth 100000 in
set_option maxHeartbeats 0 in
theorem PySem.Challenge.cw_gridscope_k13_texts_laid_in_boxes_holds : PySem.Challenge.rw_gridscope_k13_texts_laid_in_boxes.Holds := by
  w_on; o_law; k_head; (case hw => w_witness2)
  k_fill
  refine K13.walk (l := PySem.Challenge.rw_gridscope_k13_texts_laid_in_boxes) rfl rfl (fun w h Y => PySem.W.kIn_of Y) ?F
  case F =>
    intro w mg fa h KX G hmg
    refine' K13.all_mk KX G hmg ?a_check_wide ?l_check_wide ?c_check_wide ?k_check_wide ?a_check_look ?l_check_look ?c_check_look ?k_check_look ?a_words ?l_words ?c_words ?k_words ?a_pieces ?l_pieces ?c_pieces ?k_pieces ?a_set_lines ?l_set_lines ?c_set_lines ?k_set_lines ?a_lead ?l_lead ?c_lead ?k_lead ?a_line_on ?l_line_on ?c_line_on ?k_line_on ?a_spread ?l_spread ?c_spread ?k_spread ?a_laid ?l_laid ?c_laid ?k_laid ?a_begin ?l_begin ?c_begin ?k_begin ?a_pick ?l_pick ?c_pick ?k_pick ?a_one ?l_one ?c_one ?k_one ?a_text ?l_text ?c_text ?k_text ?a_look ?l_look ?c_look ?k_look ?a_same ?l_same ?c_same ?k_same ?a_parts ?l_parts ?c_parts ?k_parts ?a_lines ?l_lines ?c_lines ?k_lines ?a_start ?l_start ?c_start ?k_start ?a_set ?l_set ?c_set ?k_set ?a_told ?l_told ?c_told ?k_told ?a_law ?l_law ?c_law ?k_law ?z_max ?z_min ?z_len ?z_list ?z_isinstance ?z_bool ?z_int ?z_str ?z_tuple ?z_range ?z_all ?z_sum ?z_sorted ?z_any ?z_dict ?z_repr ?g_BLANK ?g_SIDES ?t_SIDES ?g_HEIGHTS ?t_HEIGHTS ?g_set_lines_wrap ?g_laid_side ?g_laid_height ?g_laid_wrap ?io ?it ?e_BadSize ?ex_BadSize ?ek_BadSize ?eb_BadSize ?et_BadSize ?ec_BadSize ?es_BadSize ?e_BadLook ?ex_BadLook ?ek_BadLook ?eb_BadLook ?et_BadLook ?ec_BadLook ?es_BadLook ?e_GridError ?ex_GridError ?ek_GridError ?eb_GridError ?et_GridError ?ec_GridError ?es_GridError ?xg_BadSize ?xk_BadSize ?xd_BadSize ?xc_BadSize ?xm_BadSize ?xg_BadLook ?xk_BadLook ?xd_BadLook ?xc_BadLook ?xm_BadLook ?u1 ?u2 ?u3 ?u4
    (case a_check_wide => k_is); (case a_check_look => k_is); (case a_words => k_is); (case a_pieces => k_is); (case a_set_lines => k_is); (case a_lead => k_is)
    (case a_line_on => k_is); (case a_spread => k_is); (case a_laid => k_is); (case a_begin => k_is); (case a_pick => k_is); (case a_one => k_is)
    (case a_text => k_is); (case a_look => k_is); (case a_same => k_is); (case a_parts => k_is); (case a_lines => k_is); (case a_start => k_is)
    (case a_set => k_is); (case a_told => k_is); (case a_law => k_is); (case z_max => k_is); (case z_min => k_is); (case z_len => k_is)
    (case z_list => k_is); (case z_isinstance => k_is); (case z_bool => k_is); (case z_int => k_is); (case z_str => k_is); (case z_tuple => k_is)
    (case z_range => k_is); (case z_all => k_is); (case z_sum => k_is); (case z_sorted => k_is); (case z_any => k_is); (case z_dict => k_is)
    (case z_repr => k_is); (case g_BLANK => k_is); (case g_SIDES => k_is); (case g_HEIGHTS => k_is); (case e_BadSize => k_is); (case e_BadLook => k_is)
    (case e_GridError => k_is); (case l_check_wide => k_is); (case c_check_wide => k_is); (case k_check_wide => k_is); (case l_check_look => k_is); (case c_check_look => k_is)
    (case k_check_look => k_is); (case l_words => k_is); (case c_words => k_is); (case k_words => k_is); (case l_pieces => k_is); (case c_pieces => k_is)
    (case k_pieces => k_is); (case l_set_lines => k_is); (case c_set_lines => k_is); (case k_set_lines => k_is); (case l_lead => k_is); (case c_lead => k_is)
    (case k_lead => k_is); (case l_line_on => k_is); (case c_line_on => k_is); (case k_line_on => k_is); (case l_spread => k_is); (case c_spread => k_is)
    (case k_spread => k_is); (case l_laid => k_is); (case c_laid => k_is); (case k_laid => k_is); (case l_begin => k_is); (case c_begin => k_is)
    (case k_begin => k_is); (case l_pick => k_is); (case c_pick => k_is); (case k_pick => k_is); (case l_one => k_is); (case c_one => k_is)
    (case k_one => k_is); (case l_text => k_is); (case c_text => k_is); (case k_text => k_is); (case l_look => k_is); (case c_look => k_is)
    (case k_look => k_is); (case l_same => k_is); (case c_same => k_is); (case k_same => k_is); (case l_parts => k_is); (case c_parts => k_is)
    (case k_parts => k_is); (case l_lines => k_is); (case c_lines => k_is); (case k_lines => k_is); (case l_start => k_is); (case c_start => k_is)
    (case k_start => k_is); (case l_set => k_is); (case c_set => k_is); (case k_set => k_is); (case l_told => k_is); (case c_told => k_is)
    (case k_told => k_is); (case l_law => k_is); (case c_law => k_is); (case k_law => k_is); (case t_SIDES => k_is); (case t_HEIGHTS => k_is)
    (case io => k_is); (case it => k_is); (case ex_BadSize => k_exc); (case ek_BadSize => k_is); (case eb_BadSize => k_is); (case et_BadSize => k_is)
    (case ec_BadSize => k_is); (case es_BadSize => k_is); (case ex_BadLook => k_exc); (case ek_BadLook => k_is); (case eb_BadLook => k_is); (case et_BadLook => k_is)
    (case ec_BadLook => k_is); (case es_BadLook => k_is); (case ex_GridError => k_exc); (case ek_GridError => k_is); (case eb_GridError => k_is); (case et_GridError => k_is)
    (case ec_GridError => k_is); (case es_GridError => k_is); (case xg_BadSize => k_is); (case xk_BadSize => k_is); (case xd_BadSize => k_is); (case xc_BadSize => k_is)
    (case xm_BadSize => k_is); (case xg_BadLook => k_is); (case xk_BadLook => k_is); (case xd_BadLook => k_is); (case xc_BadLook => k_is); (case xm_BadLook => k_is)
    (case u1 => k_is); (case u2 => k_is); (case u3 => k_is); (case u4 => k_is); (case g_set_lines_wrap => k_is); (case g_laid_side => k_is)
    (case g_laid_height => k_is); (case g_laid_wrap => k_is)
