import PyProof.Rows.All
import Wide.All
import OpenK.AllK
import Wide.FinOn
import HandS.ForMost
import HandS.Deep
import HandS.IsInst
import HandS.Codes
import HandS.ForExc
import HandS.RaiseMore
import HandS.FStr
import HandS.More
import HandS.Walk
import HandS.MakeKwOnly
import HandS.ExcIs
import HandS.OwnEq
import PySem.Challenge.RW_gridscope_k03_points_in_sizes
set_option Elab.async false
set_option linter.all false
set_option maxRecDepth 100000
set_option maxHeartbeats 4000000
namespace Gs
open PySem L2
/-! ### a def of the text, by its name, as its callers use it -/
def Dn (P : Program) (w : World) (K : PySem.W.Frag) (mg : Str → Option Value) (base : Heap) (CX : CXT) (k : Nat) (x : Str) (ps : List Str) (sp : Sp) : Prop :=
  ∃ (f : Addr) (fd : FuncData), FnOk P w K mg base CX k f fd ps sp ∧ mg x = some (.ref f) ∧ PySem.W.keepIn K (.ref f) = true ∧ Binds K fd ps []
theorem Dn.mono {P : Program} {w : World} {K : PySem.W.Frag} {mg : Str → Option Value} {base : Heap} {CX : CXT} {j k : Nat} {x : Str} {ps : List Str} {sp : Sp} (D : Dn P w K mg base CX j x ps sp) (h : j ≤ k) : Dn P w K mg base CX k x ps sp := by
  obtain ⟨f, fd, F, m, kp, b⟩ := D
  exact ⟨f, fd, F.mono h, m, kp, b⟩
theorem Dn.imp {P : Program} {w : World} {K : PySem.W.Frag} {mg : Str → Option Value} {base : Heap} {CX : CXT} {k : Nat} {x : Str} {ps : List Str} {sp sp' : Sp} (D : Dn P w K mg base CX k x ps sp) (h : ∀ vs H Q E, sp' vs H Q E → sp vs H Q E) : Dn P w K mg base CX k x ps sp' := by
  obtain ⟨f, fd, F, m, kp, b⟩ := D
  exact ⟨f, fd, F.imp h, m, kp, b⟩
theorem pe_callD {X : Cx} {CX : CXT} {k : Nat} {x : Str} {ps : List Str} {sp : Sp} {E : XK} {p pos : Pos} {e : Expr} {es : List Expr} {t : TA} (D : Dn X.prog X.w X.K X.mg X.base CX k x ps sp) (hr : Room k X.A) (hg : Gl X x) (hx : Passes CX X E)
    (ha : PA X (e :: es) t) (hdb : (x == ("__debug__" : Str)) = false := by decide) (he : starEach (e :: es) X.env = (false, eval e X.env) :: starEach es X.env := by rfl) (hpl : (backTo pos (starEach es X.env)).any (·.1) = false := by rfl) :
    PE X (.Call (.Name x p) (e :: es) [] pos) (tCall sp [] E t) := by
  obtain ⟨f, fd, F, m, kp, b⟩ := D
  exact pe_call F hr hg m kp b .nil hx ha hdb he hpl
theorem pe_callSD {X : Cx} {CX : CXT} {k : Nat} {x : Str} {ps : List Str} {sp : Sp} {E : St → XK} {p pos : Pos} {e : Expr} {es : List Expr} {t : TA} (D : Dn X.prog X.w X.K X.mg X.base CX k x ps sp) (hr : Room k X.A) (hg : Gl X x) (hx : ∀ σ, PassesAt CX X σ (E σ))
    (ha : PA X (e :: es) t) (hdb : (x == ("__debug__" : Str)) = false := by decide) (he : starEach (e :: es) X.env = (false, eval e X.env) :: starEach es X.env := by rfl) (hpl : (backTo pos (starEach es X.env)).any (·.1) = false := by rfl) :
    PE X (.Call (.Name x p) (e :: es) [] pos) (tCallS sp E t) := by
  obtain ⟨f, fd, F, m, kp, b⟩ := D
  exact pe_callS F hr hg m kp b hx ha hdb he hpl
/-- what the top says of an own exception class without a method of its own -/
structure ExcOk (K : PySem.W.Frag) (mg : Str → Option Value) (x : Str) (C : Addr) (bm : List Value) (nid : String) : Prop where
  g : mg x = some (.ref C)
  ex : PySem.W.excIn K C bm nid = true
  kp : PySem.W.keepIn K (.ref C) = true
  b : PySem.W.subIn K (.ref C) (.type "BaseException") = some true
  t : PySem.W.typeIn K (.ref C) = some (.type "type")
  cl : PySem.W.isClsIn K C = true
  sf : PySem.W.subIn K (.ref C) (.ref C) = some true
theorem exm_own {K : PySem.W.Frag} {cls : Value} {C : Addr} {b : Bool} (hb : PySem.W.subIn K (.ref C) (.type "BaseException") = some true) (hc : PySem.W.isClsIn K C = true) (ht : PySem.W.typeIn K (.ref C) = some (.type "type")) (hs : PySem.W.subIn K cls (.ref C) = some b) : PySem.W.exmOne K cls (.ref C) = some b := by
  have h1 : PySem.W.kitCls K cls (.ref C) = some b := by
    show (if ((PySem.W.clsIn K C).isSome && PySem.W.typeIn K (.ref C) == some (.type "type")) = true then PySem.W.subIn K cls (.ref C) else none) = some b
    have h2 : (PySem.W.clsIn K C).isSome = true := hc
    rw [h2, ht, if_pos (by simp)]
    exact hs
  unfold PySem.W.exmOne
  rw [hb, if_pos (by simp)]
  exact h1
theorem ExcOk.me {K : PySem.W.Frag} {mg : Str → Option Value} {x : Str} {C : Addr} {bm : List Value} {nid : String} (e : ExcOk K mg x C bm nid) : PySem.W.exmOne K (.ref C) (.ref C) = some true := exm_own e.b e.cl e.t e.sf
abbrev ieL : List Value := [.type "IndexError", .type "LookupError", .type "Exception", .type "BaseException", .type "object"]
abbrev leL : List Value := [.type "LookupError", .type "Exception", .type "BaseException", .type "object"]
abbrev veL : List Value := [.type "ValueError", .type "Exception", .type "BaseException", .type "object"]
theorem glS {X : Cx} {x z : Str} {t : Tok} {pos : Pos} (hg : Gl X x) (hm : X.mg x = some (.str z t)) (hd : (x == ("__debug__" : Str)) = false := by decide) : PE X (.Name x pos) (tC (.str z)) := pe_glob hg hm ⟨t, rfl⟩ hd
theorem glI {X : Cx} {x : Str} {i : Int} {t : Tok} {pos : Pos} (hg : Gl X x) (hm : X.mg x = some (.int i t)) (hd : (x == ("__debug__" : Str)) = false := by decide) : PE X (.Name x pos) (tC (.int i)) := pe_glob hg hm ⟨t, rfl⟩ hd
/-! ### heaps -/
theorem same_new {H : Hp} {p : Addr} (h : H p = none) (o : HO) : Same H (upd H p o) := fun b u q => by rw [upd_ne (ne_of_none q h)]; exact q
theorem Same.tup {K : PySem.W.Frag} {H H' : Hp} {a : Addr} {xs : List V} (e : Same H H') (h : SqT K H a xs) : SqT K H' a xs := by
  rcases h with (h | ⟨o, h⟩) | h
  · exact .inl (.inl (e _ _ h))
  · exact .inl (.inr ⟨o, e _ _ h⟩)
  · exact .inr h
theorem small {n : Nat} (h : n ≤ 1000) : n ≤ sizeLine := Nat.le_of_lt (small1000 h)
/-! ### data at any depth -/
mutual
theorem dp_same {K : PySem.W.Frag} {H H' : Hp} (e : Same H H') : ∀ (d : PyData) (v : V), Dp K H v d → Dp K H' v d
  | .none, _, h => by cases h; exact .non
  | .bool b, _, h => by cases h; exact .bl b
  | .int i, _, h => by cases h; exact .int i
  | .str x, _, h => by cases h; exact .str x
  | .list ds, _, h => by
    cases h with
    | lst s a => exact .lst (e.seq s) (dpAll_same e ds _ a)
  | .tuple ds, _, h => by
    cases h with
    | tup s a => exact .tup (Same.tup e s) (dpAll_same e ds _ a)
  | .dict b, _, h => by cases h
theorem dpAll_same {K : PySem.W.Frag} {H H' : Hp} (e : Same H H') : ∀ (ds : List PyData) (vs : List V), DpAll K H vs ds → DpAll K H' vs ds
  | [], _, h => by cases h; exact .nil
  | d :: ds, _, h => by
    cases h with
    | cons a b => exact .cons (dp_same e d _ a) (dpAll_same e ds _ b)
end
theorem dpI {K : PySem.W.Frag} {H : Hp} {i j : Int} (e : i = j) : Dp K H (.int i) (.int j) := by subst e; exact .int _
theorem dpB {K : PySem.W.Frag} {H : Hp} {i j : Bool} (e : i = j) : Dp K H (.bl i) (.bool j) := by subst e; exact .bl _
theorem dpS {K : PySem.W.Frag} {H : Hp} {i j : Str} (e : i = j) : Dp K H (.str i) (.str j) := by subst e; exact .str _
theorem dpAll_len {K : PySem.W.Frag} {H : Hp} : ∀ {vs : List V} {ds : List PyData}, DpAll K H vs ds → vs.length = ds.length
  | _, _, .nil => rfl
  | _, _, .cons _ b => by simp [dpAll_len b]
theorem dpAll_get {K : PySem.W.Frag} {H : Hp} : ∀ {vs : List V} {ds : List PyData} {i : Nat} {d : PyData}, DpAll K H vs ds → ds[i]? = some d → ∃ v, vs[i]? = some v ∧ Dp K H v d
  | _, _, _, _, .nil, e => by simp at e
  | _, _, 0, _, .cons a _, e => by simp at e; subst e; exact ⟨_, rfl, a⟩
  | _, _, i + 1, _, .cons _ b, e => by simpa using dpAll_get (i := i) b (by simpa using e)

/-! ### the law's own helpers: what each of them promises -/
/-- a draw: what is left of the script, its place, what is left of a great number, the seed, the count -/
def drawO (l : Addr) (i left seed n : Int) : HO := .lst [.ref l, .int i, .int left, .int seed, .int n]
def DrawAt (H : Hp) (a : Addr) : Prop := ∃ (l : Addr) (ns : List Int) (i left seed n : Int), H a = some (drawO l i left seed n) ∧ H l = some (.lst (ns.map V.int)) ∧ 0 ≤ i ∧ 0 ≤ seed ∧ seed < 1000000007
/-- all but the draw is as it was -/
def Ext (a : Addr) (H H' : Hp) : Prop := DrawAt H' a ∧ ∀ b o, b ≠ a → H b = some o → H' b = some o
theorem DrawAt.ne {H : Hp} {a l : Addr} {i left seed n : Int} {ns : List Int} (h1 : H a = some (drawO l i left seed n)) (h2 : H l = some (.lst (ns.map V.int))) : l ≠ a := by
  refine ne_of h2 h1 ?_
  intro e
  unfold drawO at e
  cases ns with
  | nil => simp at e
  | cons x r => simp at e
theorem DrawAt.same {H H' : Hp} {a : Addr} (d : DrawAt H a) (e : Same H H') : DrawAt H' a := by
  obtain ⟨l, ns, i, left, seed, n, h1, h2, r⟩ := d
  exact ⟨l, ns, i, left, seed, n, e _ _ h1, e _ _ h2, r⟩
theorem Ext.trans {a : Addr} {H H1 H2 : Hp} (x : Ext a H H1) (y : Ext a H1 H2) : Ext a H H2 := ⟨y.1, fun b o n h => y.2 b o n (x.2 b o n h)⟩
theorem Ext.same {a : Addr} {H H1 H2 : Hp} (x : Ext a H H1) (y : Same H1 H2) : Ext a H H2 := ⟨x.1.same y, fun b o n h => y b o (x.2 b o n h)⟩
theorem Ext.of {a : Addr} {H H1 : Hp} (d : DrawAt H a) (y : Same H H1) : Ext a H H1 := ⟨d.same y, fun b o _ h => y b o h⟩
theorem DrawAt.neT {H : Hp} {a b : Addr} {xs : List V} (d : DrawAt H a) (h : H b = some (.tup xs)) : b ≠ a := by
  obtain ⟨l, ns, i, left, seed, n, h1, h2, r⟩ := d
  exact ne_of h h1 (by intro e; unfold drawO at e; cases e)
/-- a tuple stays -/
theorem Ext.tup {a b : Addr} {H H1 : Hp} {xs : List V} (x : Ext a H H1) (d : DrawAt H a) (h : H b = some (.tup xs)) : H1 b = some (.tup xs) := x.2 b _ (d.neT h) h
/-! the longest list or tuple in it -/
mutual
def mxl : PyData → Nat
  | .list ds => max ds.length (mxlAll ds)
  | .tuple ds => max ds.length (mxlAll ds)
  | _ => 0
def mxlAll : List PyData → Nat
  | [] => 0
  | d :: r => max (mxl d) (mxlAll r)
end
theorem mxl_get : ∀ {ds : List PyData} {i : Nat} {d : PyData}, ds[i]? = some d → mxl d ≤ mxlAll ds
  | [], _, _, e => by simp at e
  | x :: r, 0, d, e => by
    simp at e
    subst e
    simp only [mxlAll]
    omega
  | x :: r, i + 1, d, e => by
    have := mxl_get (ds := r) (i := i) (d := d) (by simpa using e)
    simp only [mxlAll]
    omega
def spBegin (K : PySem.W.Frag) : Sp := fun vs H Q _ => ∃ (s : Addr) (ns : List Int), vs = [.ref s] ∧ SqL K H s (ns.map V.int) ∧ ∀ (a : Addr) (H' : Hp), H a = none → DrawAt H' a → Same H H' → Q (.ref a) H'
def spPick : Sp := fun vs H Q _ => ∃ (a : Addr) (many : Int), vs = [.ref a, .int many] ∧ DrawAt H a ∧ 1 ≤ many ∧ many < 1073741824 ∧
  ∀ (r : Int) (H' : Hp), 0 ≤ r → r < many → DrawAt H' a → (∀ b, b ≠ a → H' b = H b) → Q (.int r) H'
def spSame (K : PySem.W.Frag) (n : Nat) : Sp := fun vs H Q _ => ∃ (x y : V) (d : PyData), vs = [x, y] ∧ Dp K H x d ∧ Dp K H y d ∧ d.depth < n ∧ mxl d ≤ 100000 ∧ ∀ H', Same H H' → Q (.bl true) H'
theorem same_none {P : Program} {w : World} {K : PySem.W.Frag} {mg : Str → Option Value} {base : Heap} {f : Addr} {fd : FuncData} : FnOk P w K mg base CX0 0 f fd ["_law_found", "_law_due"] (spSame K 0) := by
  have no : ∀ vs H Q E, ¬ spSame K 0 vs H Q E := fun vs H Q E h => by
    obtain ⟨x, y, d, _, _, _, h1, _⟩ := h
    omega
  exact ⟨fun vs H Q E h => absurd h (no vs H Q E), fun A outer s H args us vs Q E _ _ _ _ h => absurd h (no vs H Q E)⟩
/-! ### isinstance -/
theorem kit2 {K : PySem.W.Frag} {a b c : String} {r1 r2 : Bool} (h : kitB a b = some r1) (h2 : kitB a c = some r2) : PySem.W.kitAny K (.type a) [.type b, .type c] = some (r1 || r2) := by
  refine kitAny_cons (kit_ty h) (fun e => ?_) (fun e => by rw [e]; rfl)
  rw [e, Bool.false_or]
  refine kitAny_cons (kit_ty h2) (fun e => ?_) (fun e => e)
  rw [e]
  rfl
theorem cls2 (b c : String) : Paired ClsV [.ty b, .ty c] [.type b, .type c] := .cons (.ty b) (.cons (.ty c) .nil)
theorem tyx_list {K : PySem.W.Frag} {H : Hp} {a : Addr} {xs : List V} (h : SqL K H a xs) : TyX K H (.ref a) (.type "list") := by
  rcases h with (h | ⟨o, h⟩) | ⟨o, its, n, h, c, _⟩
  · exact .base (.lst h)
  · exact .base (.frz h)
  · exact .kList h c
theorem tyx_tuple {K : PySem.W.Frag} {H : Hp} {a : Addr} {xs : List V} (h : SqT K H a xs) : TyX K H (.ref a) (.type "tuple") := by
  rcases h with (h | ⟨o, h⟩) | ⟨o, its, n, h, c, _⟩
  · exact .base (.tup h)
  · exact .fTuple h
  · exact .kTuple h c
theorem ixLk {X : Cx} {K : PySem.W.Frag} (h : X.K = K) : IxR X (rIxL K) := by subst h; exact ix_list
theorem ixTk {X : Cx} {K : PySem.W.Frag} (h : X.K = K) : IxR X (rIxT K) := by subst h; exact ix_tup
theorem ixQk {X : Cx} {K : PySem.W.Frag} (h : X.K = K) : IxR X (rIx K) := by subst h; exact ix_seq
theorem inDk {X : Cx} {K : PySem.W.Frag} (h : X.K = K) (hu : X.A.units + 65 < cLine) : OpR X (compareOp .In) (rInD K) := by subst h; exact op_inD hu
theorem ifT {c A B : Prop} [Decidable c] (h : c) (x : A) : if c then A else B := by rw [if_pos h]; exact x
theorem ifF {c A B : Prop} [Decidable c] (h : ¬ c) (x : B) : if c then A else B := by rw [if_neg h]; exact x
theorem cut_ints (ns : List Int) (lo hi : Option Int) : ∃ ms : List Int, cutV (ns.map V.int) lo hi = ms.map V.int := by
  unfold cutV
  exact ⟨_, by rw [← List.map_drop, ← List.map_take]⟩
theorem shaped_bool (b : Bool) : SeqAt.shaped (.bool b) = true := by simp [SeqAt.shaped, PyData.canLay0, PyData.depth]
theorem shaped_int (b : Int) : SeqAt.shaped (.int b) = true := by simp [SeqAt.shaped, PyData.canLay0, PyData.depth]
theorem shaped_eqv {d : PyData} (h : SeqAt.shaped d = true) : PyData.eqv d d = true := SeqAt.eqv_refl d (SeqAt.canLay_of_shaped h)
theorem depth_get : ∀ {ds : List PyData} {i : Nat} {d : PyData}, ds[i]? = some d → d.depth ≤ PyData.depthAll ds
  | [], _, _, e => by simp at e
  | x :: r, 0, d, e => by
    simp at e
    subst e
    simp only [PyData.depthAll]
    omega
  | x :: r, i + 1, d, e => by
    have := depth_get (ds := r) (i := i) (d := d) (by simpa using e)
    simp only [PyData.depthAll]
    omega
theorem rep_bl (n : Nat) : List.replicate n (V.bl true) = (List.replicate n true).map V.bl := by simp
theorem rep_all (n : Nat) : (List.replicate n true).all id = true := by simp
theorem rep_succ (n : Nat) : List.replicate n (V.bl true) ++ [V.bl true] = List.replicate (n + 1) (V.bl true) := by
  rw [← List.replicate_succ']
end Gs

set_option Elab.async false
set_option linter.all false
set_option maxRecDepth 100000
set_option maxHeartbeats 4000000
namespace Gs
open PySem L2
/-! ### methods of an own class -/
def Mn (P : Program) (w : World) (K : PySem.W.Frag) (mg : Str → Option Value) (base : Heap) (CX : CXT) (k : Nat) (C : Addr) (m : Str) (ps : List Str) (sp : Sp) : Prop :=
  ∃ (f : Addr) (fd : FuncData), FnOk P w K mg base CX k f fd ps sp ∧ Meth K C m f ∧ Binds K fd ps []
theorem Mn.mono {P : Program} {w : World} {K : PySem.W.Frag} {mg : Str → Option Value} {base : Heap} {CX : CXT} {j k : Nat} {C : Addr} {m : Str} {ps : List Str} {sp : Sp} (D : Mn P w K mg base CX j C m ps sp) (h : j ≤ k) : Mn P w K mg base CX k C m ps sp := by
  obtain ⟨f, fd, F, m, b⟩ := D
  exact ⟨f, fd, F.mono h, m, b⟩
theorem Mn.imp {P : Program} {w : World} {K : PySem.W.Frag} {mg : Str → Option Value} {base : Heap} {CX : CXT} {k : Nat} {C : Addr} {m : Str} {ps : List Str} {sp sp' : Sp} (D : Mn P w K mg base CX k C m ps sp) (h : ∀ vs H Q E, sp' vs H Q E → sp vs H Q E) : Mn P w K mg base CX k C m ps sp' := by
  obtain ⟨f, fd, F, m, b⟩ := D
  exact ⟨f, fd, F.imp h, m, b⟩
section
variable {X : Cx} {CX : CXT} {k : Nat} {C : Addr} {m : Str} {ps : List Str} {sp : Sp} {p pos apos : Pos} {e o : Expr} {es : List Expr} {ta : TE} {t : TA}
theorem pe_methD {E : XK} {pl : Sem Bool} (c : Cls X.K C) (D : Mn X.prog X.w X.K X.mg X.base CX k C m ps sp) (hr : Room k X.A) (hx : Passes CX X E) (he : PE X o ta) (ha : PA X (e :: es) t)
    (hst : starEach (e :: es) X.env = (false, eval e X.env) :: starEach es X.env := by rfl) (hpl : (backTo pos (starEach es X.env)).any (·.1) = false := by rfl)
    (ht : eval (.Call (.Attribute o m apos) (e :: es) [] pos) X.env = (do let ov ← eval o X.env; standAt apos.atName; let (f, first) ← holding [ov] (getMethod ov m pl); callWith pos f first (backTo pos (starEach (e :: es) X.env)) (backToKw pos (keywordEach [] X.env))) := by rfl) :
    PE X (.Call (.Attribute o m apos) (e :: es) [] pos) (tMeth C m sp [] E ta t) := by
  obtain ⟨f, fd, F, hm, b⟩ := D
  exact pe_meth he c hm F hr b .nil hx ha hst hpl ht
theorem pe_methD0 {E : XK} {pl : Sem Bool} (c : Cls X.K C) (D : Mn X.prog X.w X.K X.mg X.base CX k C m ps sp) (hr : Room k X.A) (hx : Passes CX X E) (he : PE X o ta)
    (ht : eval (.Call (.Attribute o m apos) [] [] pos) X.env = (do let ov ← eval o X.env; standAt apos.atName; let (f, first) ← holding [ov] (getMethod ov m pl); callWith pos f first (backTo pos (starEach [] X.env)) (backToKw pos (keywordEach [] X.env))) := by rfl) :
    PE X (.Call (.Attribute o m apos) [] [] pos) (tMeth C m sp [] E ta tNil) := by
  obtain ⟨f, fd, F, hm, b⟩ := D
  exact pe_meth0 he c hm F hr b .nil hx ht
/-- within a try: what is raised is wished for at the slots -/
def tMethAt (C : Addr) (m : Str) (sp : Sp) (E : St → XK) (ta : TE) (t : TA) : TE := fun σ H Q => ta σ H fun x H1 => ∃ a dx fs, x = .ref a ∧ H1 a = some (.ins C dx fs) ∧ fs.lookup m = none ∧ t σ H1 fun vs H2 => sp (x :: vs) H2 Q (E σ)
theorem pe_methSD {E : St → XK} {pl : Sem Bool} (c : Cls X.K C) (D : Mn X.prog X.w X.K X.mg X.base CX k C m ps sp) (hr : Room k X.A) (hx : ∀ σ, PassesAt CX X σ (E σ)) (he : PE X o ta) (ha : PA X (e :: es) t)
    (hst : starEach (e :: es) X.env = (false, eval e X.env) :: starEach es X.env := by rfl) (hpl : (backTo pos (starEach es X.env)).any (·.1) = false := by rfl)
    (ht : eval (.Call (.Attribute o m apos) (e :: es) [] pos) X.env = (do let ov ← eval o X.env; standAt apos.atName; let (f, first) ← holding [ov] (getMethod ov m pl); callWith pos f first (backTo pos (starEach (e :: es) X.env)) (backToKw pos (keywordEach [] X.env))) := by rfl) :
    PE X (.Call (.Attribute o m apos) (e :: es) [] pos) (tMethAt C m sp E ta t) := by
  obtain ⟨f, fd, F, hm, b⟩ := D
  refine ⟨fun pins s σ H Q I h => PySem.W.methodCall_KW (pl := pl) (thn (he.run pins s σ H _ I h) fun u s1 hh => ?_) ht⟩
  obtain ⟨x, H1, I1, rx, a, dx, fs, ex, ea, l, q⟩ := hh
  subst ex
  obtain rfl : u = Value.ref a := rx
  refine getmeth_ok I1 ea c hm l (PySem.W.callWith_K (first := [.ref a]) (h₀ := X.base) I.ok.mod.kin hm.kp (thn (ha.run pos pins s1 σ H1 _ I1 q) fun us s2 hh => ?_) hst hpl)
  obtain ⟨vs, H2, I2, r, q2⟩ := hh
  exact ⟨I2.kIn, run_fnS (us := .ref a :: us) (vs := .ref a :: vs) F hr b (hx σ) I2 (.cons rfl r) q2⟩
theorem fldK {K : PySem.W.Frag} {f : Str} (h : X.K = K) (he : PE X o ta) (hb : attributeBase o f X.env (eval o X.env) = eval o X.env) : PE X (.Attribute o f pos) (tFld K ta f) := by
  subst h
  exact pe_fld he hb
end
/-! ### ints that may be written in a text -/
def Sm (i : Int) : Prop := i.natAbs < 2 ^ 200
theorem Sm.log {i : Int} (h : Sm i) : i.natAbs.log2 < 1920 := by
  by_cases z : i.natAbs = 0
  · rw [z]
    decide
  · have h1 : i.natAbs.log2 < 200 := (Nat.log2_lt z).mpr h
    omega
theorem Sm.of {i : Int} (h0 : -(10 ^ 40) ≤ i) (h1 : i ≤ 10 ^ 40) : Sm i := by
  have : i.natAbs ≤ 10 ^ 40 := by omega
  exact Nat.lt_of_le_of_lt this (by decide)
theorem Sm.len {i : Int} (h : Sm i) : (Str.ofString (toString i)).length ≤ 201 := by
  have h1 : i.natAbs.log2 < 200 := by
    by_cases z : i.natAbs = 0
    · rw [z]
      decide
    · exact (Nat.log2_lt z).mpr h
  have e := PySem.int_text_length_le (k := 200) (by decide) h1
  rw [PySem.ofString_length]
  exact e
/-! ### repr of an own class -/
def rRepr (C : Addr) (sp : Sp) (E : XK) : List V → Hp → VK → Prop := fun xs H Q => ∃ a dx fs, xs = [.ref a] ∧ H a = some (.ins C dx fs) ∧ sp [.ref a] H (fun v H' => (∃ z, v = .str z) ∧ Q v H') E
theorem call_repr {X : Cx} {CX : CXT} {k : Nat} {C f : Addr} {fd : FuncData} {ps : List Str} {sp : Sp} {E : XK} (F : FnOk X.prog X.w X.K X.mg X.base CX k f fd ps sp) (hs : PySem.W.findIn X.K (.ref C) "__repr__" = some (some (.ref f))) (hf : PySem.W.isFn X.K (.ref f) = true)
    (hb : Binds X.K fd ps []) (hr : Room (k + 1) X.A) (hx : Passes CX X E) : CallR X (.builtin "repr") (rRepr C sp E) := by
  intro pins s σ H xs us Q I r h
  obtain ⟨a, dx, fs, rfl, ha, hsp⟩ := h
  obtain ⟨u, rfl, ru⟩ := vals1 r
  cases ru
  obtain ⟨mA, J, _⟩ := ins_get I.hok ha
  obtain ⟨od, J, _⟩ := J.look
  obtain ⟨m, hF⟩ := I.fr
  have e := I.env0
  have e0 : Env0 X.prog X.w X.K X.mg X.base X.A.in1 X.stack s H := ⟨e.frames, e.mod, e.bs, e.bsz, e.funs, e.frf, e.hok, e.bare⟩
  have hl := F.len _ _ _ _ hsp
  refine PySem.W.repr_K hr.in1.units0 hF I.ok.mod.kin J hs hf ?_
  have b0 := hb s [.ref a] I.kIn (by rw [List.append_nil]; exact hl)
  rw [List.append_nil] at b0
  refine wpAny_call (codeAny_mono (F.run X.A.in1 X.stack s H ⟨[.ref a], []⟩ [.ref a] [.ref a] _ E hr.in1 e0 b0 (.cons rfl .nil) hsp) fun r s' hq => ?_)
  cases r with
  | error e => exact hx pins σ H s e s' I hq
  | ok fl =>
    cases fl with
    | ret w =>
      obtain ⟨z, H', I', rz, ⟨y, ez⟩, ex⟩ := I.after hq
      subst ez
      obtain ⟨tk, rfl⟩ := rz
      exact ⟨.str y, H', I', ⟨tk, rfl⟩, ex⟩
    | next => exact False.elim hq
    | brk => exact False.elim hq
    | cont => exact False.elim hq
/-! ### a row of sizes -/
structure Sz where
  many : Int
  common : Int
  odd : List (Int × Int × Bool)
def fldZ (n c : Int) (d : Addr) : List (Str × V) := putF "odd" (.ref d) (putF "common" (.int c) (putF "many" (.int n) []))
theorem ne1 : ¬ (("many" : Str) = "common") := by decide +kernel
theorem ne2 : ¬ (("many" : Str) = "odd") := by decide +kernel
theorem ne3 : ¬ (("common" : Str) = "odd") := by decide +kernel
theorem fldZ_eq (n c : Int) (d : Addr) : fldZ n c d = ([("many", .int n), ("common", .int c), ("odd", .ref d)] : List (Str × V)) := by
  unfold fldZ
  simp only [putF, if_neg ne1, if_neg ne2, if_neg ne3]
theorem fz_many (n c : Int) (d : Addr) : (fldZ n c d).lookup ("many" : Str) = some (.int n) := by
  unfold fldZ
  rw [lookup_putF, if_neg ne2, lookup_putF, if_neg ne1, lookup_putF, if_pos rfl]
theorem fz_common (n c : Int) (d : Addr) : (fldZ n c d).lookup ("common" : Str) = some (.int c) := by
  unfold fldZ
  rw [lookup_putF, if_neg ne3, lookup_putF, if_pos rfl]
theorem fz_odd (n c : Int) (d : Addr) : (fldZ n c d).lookup ("odd" : Str) = some (.ref d) := by
  unfold fldZ
  rw [lookup_putF, if_pos rfl]
theorem fz_no (n c : Int) (d : Addr) {m : Str} (h1 : (decide (m = "many") || decide (m = "common") || decide (m = "odd")) = false := by decide +kernel) : (fldZ n c d).lookup m = none := by
  simp only [Bool.or_eq_false_iff, decide_eq_false_iff_not] at h1
  unfold fldZ
  rw [lookup_putF, if_neg h1.2, lookup_putF, if_neg h1.1.2, lookup_putF, if_neg h1.1.1]
  rfl
theorem fz_put_odd (n c : Int) (d e : Addr) : putF "odd" (.ref e) (fldZ n c d) = fldZ n c e := by
  rw [fldZ_eq, fldZ_eq]
  simp only [putF, if_neg ne2, if_neg ne3, if_true]
theorem fz_put_many (n m c : Int) (d : Addr) : putF "many" (.int m) (fldZ n c d) = fldZ m c d := by
  rw [fldZ_eq, fldZ_eq]
  simp only [putF, if_true]
theorem fz_few (n c : Int) (d : Addr) : (fldZ n c d).length < 1000 := by rw [fldZ_eq]; show 3 < 1000; decide
abbrev OddE := Int × Int × Bool
def OddAt (H : Hp) (kvs : List (Key × V)) (odd : List OddE) : Prop := Paired (fun (kv : Key × V) (e : OddE) => kv.1 = Sum.inl e.1 ∧ ∃ t, kv.2 = .ref t ∧ H t = some (.tup [.int e.2.1, .bl e.2.2])) kvs odd
/-- tuples stay -/
def TupSame (H H' : Hp) : Prop := ∀ t xs, H t = some (.tup xs) → H' t = some (.tup xs)
theorem TupSame.of {H H' : Hp} (s : Same H H') : TupSame H H' := fun t xs h => s t _ h
theorem TupSame.trans {H H1 H2 : Hp} (a : TupSame H H1) (b : TupSame H1 H2) : TupSame H H2 := fun t xs h => b t xs (a t xs h)
theorem TupSame.upd {H : Hp} {D : Addr} {u : HO} (h : H D = some u) (hu : ∀ xs, u ≠ .tup xs) (o : HO) : TupSame H (L2.upd H D o) := fun t xs q => by
  rw [upd_ne (ne_of q h (fun e => hu xs e.symm))]
  exact q
theorem OddAt.mono {H H' : Hp} (s : TupSame H H') : ∀ {kvs : List (Key × V)} {odd : List OddE}, OddAt H kvs odd → OddAt H' kvs odd
  | _, _, .nil => .nil
  | _, _, .cons ⟨e, t, e2, h⟩ r => .cons ⟨e, t, e2, s _ _ h⟩ (OddAt.mono s r)
theorem OddAt.len {H : Hp} : ∀ {kvs : List (Key × V)} {odd : List OddE}, OddAt H kvs odd → kvs.length = odd.length
  | _, _, .nil => rfl
  | _, _, .cons _ r => by simp [OddAt.len r]
theorem OddAt.keys {H : Hp} : ∀ {kvs : List (Key × V)} {odd : List OddE}, OddAt H kvs odd → kvs.map (·.1) = (odd.map (·.1)).map Sum.inl
  | _, _, .nil => rfl
  | _, _, .cons ⟨e, _⟩ r => by simp [OddAt.keys r, e]
def look (odd : List OddE) (i : Int) : Option (Int × Bool) := (odd.find? fun e => decide (e.1 = i)).map (·.2)
theorem OddAt.look {H : Hp} : ∀ {kvs : List (Key × V)} {odd : List OddE} (i : Int), OddAt H kvs odd → (valV kvs (Sum.inl i) = none ∧ Gs.look odd i = none) ∨ ∃ t x, valV kvs (Sum.inl i) = some (.ref t) ∧ Gs.look odd i = some x ∧ H t = some (.tup [.int x.1, .bl x.2])
  | _, _, i, .nil => .inl ⟨rfl, rfl⟩
  | (k, v) :: kvs, (j, x) :: odd, i, .cons ⟨e, t, e2, h⟩ r => by
    simp only at e e2 h
    subst e e2
    by_cases hij : j = i
    · subst hij
      exact .inr ⟨t, x, by simp [valV], by simp [Gs.look], h⟩
    · have q1 : valV ((Sum.inl j, V.ref t) :: kvs) (Sum.inl i) = valV kvs (Sum.inl i) := by simp [valV, hij]
      have q2 : Gs.look ((j, x) :: odd) i = Gs.look odd i := by simp [Gs.look, hij]
      rw [q1, q2]
      exact OddAt.look i r
structure Wf (z : Sz) : Prop where
  m0 : 1 ≤ z.many
  m1 : z.many ≤ 1000000000
  c0 : 1 ≤ z.common
  c1 : z.common ≤ 60
  nd : (z.odd.map (·.1)).Nodup
  le : z.odd.length ≤ 60
  ok : ∀ e ∈ z.odd, 0 ≤ e.1 ∧ e.1 < z.many ∧ 1 ≤ e.2.1 ∧ e.2.1 ≤ 60 ∧ (e.2.1 ≠ z.common ∨ e.2.2 = true)
/-- a row of sizes stands at p, its dict at d: to be read -/
def SzR (C : Addr) (H : Hp) (p d : Addr) (z : Sz) : Prop := ∃ dx kvs, H p = some (.ins C dx (fldZ z.many z.common d)) ∧ Rd H d (.dK kvs) ∧ OddAt H kvs z.odd ∧ Wf z
/-- .. to be written -/
def SzW (C : Addr) (H : Hp) (p d : Addr) (z : Sz) : Prop := ∃ dx kvs, H p = some (.ins C dx (fldZ z.many z.common d)) ∧ H d = some (.dK kvs) ∧ OddAt H kvs z.odd ∧ Wf z
theorem SzW.r {C : Addr} {H : Hp} {p d : Addr} {z : Sz} (h : SzW C H p d z) : SzR C H p d z := by
  obtain ⟨dx, kvs, h1, h2, h3, h4⟩ := h
  exact ⟨dx, kvs, h1, .inl h2, h3, h4⟩
theorem Same.rd {H H' : Hp} (s : Same H H') {d : Addr} {u : HO} (r : Rd H d u) : Rd H' d u := by
  rcases r with r | ⟨o, r⟩
  · exact .inl (s _ _ r)
  · exact .inr ⟨o, s _ _ r⟩
theorem SzR.same {C : Addr} {H H' : Hp} {p d : Addr} {z : Sz} (h : SzR C H p d z) (s : Same H H') : SzR C H' p d z := by
  obtain ⟨dx, kvs, h1, h2, h3, h4⟩ := h
  exact ⟨dx, kvs, s _ _ h1, Same.rd s h2, h3.mono (TupSame.of s), h4⟩
theorem SzW.same {C : Addr} {H H' : Hp} {p d : Addr} {z : Sz} (h : SzW C H p d z) (s : Same H H') : SzW C H' p d z := by
  obtain ⟨dx, kvs, h1, h2, h3, h4⟩ := h
  exact ⟨dx, kvs, s _ _ h1, s _ _ h2, h3.mono (TupSame.of s), h4⟩
def stM (z : Sz) (i : Int) : Int × Bool := (look z.odd i).getD (z.common, false)
def szM (z : Sz) (i : Int) : Int := if (stM z i).2 = true then 0 else (stM z i).1
def inR (z : Sz) (i : Int) : Prop := 0 ≤ i ∧ i < z.many
/-! ### what the program's defs promise -/
def spNum (cN : Addr) : Sp := fun vs H Q E => ∃ i n : Int, vs = [.int i, .int n] ∧ Sm i ∧ Sm n ∧ (0 ≤ i ∧ i < n → Q .non H) ∧ (¬ (0 ≤ i ∧ i < n) → E (.ref cN) none H)
def spCS (cS : Addr) : Sp := fun vs H Q E => ∃ i : Int, vs = [.int i] ∧ Sm i ∧ (1 ≤ i ∧ i ≤ 60 → Q .non H) ∧ (¬ (1 ≤ i ∧ i ≤ 60) → E (.ref cS) none H)
def spState (C cN : Addr) : Sp := fun vs H Q E => ∃ (p d : Addr) (z : Sz) (i : Int), vs = [.ref p, .int i] ∧ SzR C H p d z ∧ Sm i ∧
  (inR z i → ∀ (t : Addr) (H' : Hp), Same H H' → H' t = some (.tup [.int (stM z i).1, .bl (stM z i).2]) → Q (.ref t) H') ∧ (¬ inR z i → E (.ref cN) none H)
def spQ (C cN : Addr) (g : Sz → Int → V) : Sp := fun vs H Q E => ∃ (p d : Addr) (z : Sz) (i : Int), vs = [.ref p, .int i] ∧ SzR C H p d z ∧ Sm i ∧ (inR z i → ∀ H', Same H H' → Q (g z i) H') ∧ (¬ inR z i → E (.ref cN) none H)
abbrev spSize (C cN : Addr) : Sp := spQ C cN fun z i => .int (szM z i)
abbrev spOwn (C cN : Addr) : Sp := spQ C cN fun z i => .int (stM z i).1
abbrev spHid (C cN : Addr) : Sp := spQ C cN fun z i => .bl (stM z i).2
def ahM (z : Sz) (i : Int) : Int := i * z.common + (((z.odd.map (·.1)).filter fun k => decide (k < i)).map fun k => szM z k - z.common).sum
def spAhead (C cN : Addr) : Sp := fun vs H Q E => ∃ (p d : Addr) (z : Sz) (i : Int), vs = [.ref p, .int i] ∧ SzW C H p d z ∧ Sm i ∧ (0 ≤ i ∧ i ≤ z.many → ∀ H', Same H H' → Q (.int (ahM z i)) H') ∧ (¬ (0 ≤ i ∧ i ≤ z.many) → E (.ref cN) none H)
def spTotal (C : Addr) : Sp := fun vs H Q _ => ∃ (p d : Addr) (z : Sz), vs = [.ref p] ∧ SzW C H p d z ∧ ∀ H', Same H H' → Q (.int (ahM z z.many)) H'
def spInit (C cM cS : Addr) : Sp := fun vs H Q E => ∃ (p dx : Addr) (n c : Int), vs = [.ref p, .int n, .int c] ∧ H p = some (.ins C dx []) ∧ Sm n ∧ Sm c ∧
  ((1 ≤ n ∧ n ≤ 1000000) ∧ (1 ≤ c ∧ c ≤ 60) → ∀ (d : Addr) (H' : Hp), H d = none → SzW C H' p d ⟨n, c, []⟩ → (∀ b o, H b = some o → b ≠ p → H' b = some o) → Q .non H') ∧
  (¬ (1 ≤ n ∧ n ≤ 1000000) → E (.ref cM) none H) ∧ ((1 ≤ n ∧ n ≤ 1000000) → ¬ (1 ≤ c ∧ c ≤ 60) → E (.ref cS) none H)
/-! ### small words for the loops -/
theorem OddAt.at_ {H : Hp} : ∀ {kvs : List (Key × V)} {odd : List OddE} {j : Nat} {k : Key} {v : V}, OddAt H kvs odd → kvs[j]? = some (k, v) → ∃ e, odd[j]? = some e ∧ k = Sum.inl e.1
  | _, _, _, _, _, .nil, q => by simp at q
  | _, _, 0, _, _, .cons ⟨e, _⟩ _, q => by
    simp at q
    subst q
    exact ⟨_, rfl, e⟩
  | _, _, j + 1, _, _, .cons _ r, q => by simpa using OddAt.at_ (j := j) r (by simpa using q)
theorem take_filter1 {α : Type} (l : List α) (p : α → Bool) {i : Nat} {x : α} (h : l[i]? = some x) : (l.take (i + 1)).filter p = (l.take i).filter p ++ (if p x = true then [x] else []) := by
  rw [List.take_add_one, h, List.filter_append]
  simp [List.filter_cons]
theorem take_map1 {α β : Type} (l : List α) (g : α → β) {i : Nat} {x : α} (h : l[i]? = some x) : (l.take (i + 1)).map g = (l.take i).map g ++ [g x] := by
  rw [List.take_add_one, h, List.map_append]
  rfl
/-- rows of exceptions -/
abbrev Ex3 := Int × Int × Bool
def exc1 (z : Sz) (k : Int) : Ex3 := (k, (stM z k).1, (stM z k).2)
def exD (e : Ex3) : PyData := .tuple [.int e.1, .int e.2.1, .bool e.2.2]
def DpT (H : Hp) (xs : List V) (es : List Ex3) : Prop := Paired (fun (v : V) (e : Ex3) => ∃ t, v = .ref t ∧ H t = some (.tup [.int e.1, .int e.2.1, .bl e.2.2])) xs es
theorem DpT.mono {H H' : Hp} (s : TupSame H H') : ∀ {xs : List V} {cs : List Ex3}, DpT H xs cs → DpT H' xs cs
  | _, _, .nil => .nil
  | _, _, .cons ⟨t, e, h⟩ r => .cons ⟨t, e, s _ _ h⟩ (DpT.mono s r)
theorem DpT.append {H : Hp} : ∀ {xs ys : List V} {cs ds : List Ex3}, DpT H xs cs → DpT H ys ds → DpT H (xs ++ ys) (cs ++ ds)
  | _, _, _, _, .nil, s => s
  | _, _, _, _, .cons a r, s => .cons a (DpT.append r s)
theorem DpT.len {H : Hp} : ∀ {xs : List V} {cs : List Ex3}, DpT H xs cs → xs.length = cs.length
  | _, _, .nil => rfl
  | _, _, .cons _ r => by simp [DpT.len r]
theorem DpT.dp {K : PySem.W.Frag} {H : Hp} : ∀ {xs : List V} {cs : List Ex3}, DpT H xs cs → DpAll K H xs (cs.map exD)
  | _, _, .nil => .nil
  | _, _, .cons ⟨t, e, h⟩ r => by
    subst e
    exact .cons (.tup (SqT.of h) (.cons (.int _) (.cons (.int _) (.cons (.bl _) .nil)))) (DpT.dp r)
def spExc (K : PySem.W.Frag) (C : Addr) : Sp := fun vs H Q _ => ∃ (p d : Addr) (z : Sz), vs = [.ref p] ∧ SzW C H p d z ∧ ∀ (ys : List Int) (l : Addr) (H' : Hp), ys.Perm (z.odd.map (·.1)) → ys.Pairwise (· ≤ ·) → Same H H' → Dp K H' (.ref l) (.list ((ys.map (exc1 z)).map exD)) → Q (.ref l) H'
def reprM (z : Sz) : Str := Str.empty ++ ("Sizes " : Str) ++ (toString z.many : String) ++ (" " : Str) ++ (toString z.common : String)
def spRepr (C : Addr) : Sp := fun vs H Q _ => ∃ (p d : Addr) (z : Sz), vs = [.ref p] ∧ SzR C H p d z ∧ Q (.str (reprM z)) H
end Gs

set_option Elab.async false
set_option linter.all false
set_option maxRecDepth 100000
set_option maxHeartbeats 4000000
namespace Gs
open PySem L2
/-! ### the law's own model of a row of sizes: a dict of two counts and two dicts -/
structure Zs where
  many : Int
  common : Int
  own : List (Int × Int)
  gone : List Int
def zL (n c : Int) (o g : Addr) : List (Key × V) := [(Sum.inr "many", .int n), (Sum.inr "common", .int c), (Sum.inr "own", .ref o), (Sum.inr "gone", .ref g)]
theorem nz1 : ¬ ("many" : Str) = "common" := by decide +kernel
theorem nz2 : ¬ ("many" : Str) = "own" := by decide +kernel
theorem nz3 : ¬ ("many" : Str) = "gone" := by decide +kernel
theorem nz4 : ¬ ("common" : Str) = "own" := by decide +kernel
theorem nz5 : ¬ ("common" : Str) = "gone" := by decide +kernel
theorem nz6 : ¬ ("own" : Str) = "gone" := by decide +kernel
theorem zl_many (n c : Int) (o g : Addr) : some (V.int n) = valV (zL n c o g) (Sum.inr "many") := by simp [valV, zL]
theorem zl_common (n c : Int) (o g : Addr) : some (V.int c) = valV (zL n c o g) (Sum.inr "common") := by simp [valV, zL, nz1]
theorem zl_own (n c : Int) (o g : Addr) : some (V.ref o) = valV (zL n c o g) (Sum.inr "own") := by simp [valV, zL, nz2, nz4]
theorem zl_gone (n c : Int) (o g : Addr) : some (V.ref g) = valV (zL n c o g) (Sum.inr "gone") := by simp [valV, zL, nz3, nz5, nz6]
def ownK (l : List (Int × Int)) : List (Key × V) := l.map fun e => (Sum.inl e.1, .int e.2)
def goneK (l : List Int) : List (Key × V) := l.map fun k => (Sum.inl k, .bl true)
def zown (own : List (Int × Int)) (k : Int) : Option Int := (own.find? fun e => decide (e.1 = k)).map (·.2)
theorem own_val : ∀ (own : List (Int × Int)) (k : Int), valV (ownK own) (Sum.inl k) = (zown own k).map V.int
  | [], k => rfl
  | (j, x) :: r, k => by
    by_cases h : j = k
    · subst h
      simp [valV, ownK, zown]
    · have q1 : valV (ownK ((j, x) :: r)) (Sum.inl k) = valV (ownK r) (Sum.inl k) := by simp [valV, ownK, h]
      have q2 : zown ((j, x) :: r) k = zown r k := by simp [zown, h]
      rw [q1, q2]
      exact own_val r k
theorem gone_val : ∀ (gone : List Int) (k : Int), valV (goneK gone) (Sum.inl k) = if k ∈ gone then some (.bl true) else none
  | [], k => rfl
  | j :: r, k => by
    by_cases h : j = k
    · subst h
      simp [valV, goneK]
    · have h' : ¬ k = j := fun z => h z.symm
      have q1 : valV (goneK (j :: r)) (Sum.inl k) = valV (goneK r) (Sum.inl k) := by simp [valV, goneK, h]
      rw [q1, gone_val r k]
      simp [h']
theorem gone_some (gone : List Int) (k : Int) : (valV (goneK gone) (Sum.inl k)).isSome = decide (k ∈ gone) := by
  rw [gone_val]
  by_cases h : k ∈ gone
  · rw [if_pos h, decide_eq_true h]
    rfl
  · rw [if_neg h, decide_eq_false h]
    rfl
def zkeys (z : Zs) : List Int := z.own.map (·.1) ++ z.gone.filter fun k => !(zown z.own k).isSome
structure Zok (z : Zs) : Prop where
  m0 : 1 ≤ z.many
  m1 : z.many ≤ 1000000000
  c0 : 1 ≤ z.common
  c1 : z.common ≤ 60
  le : (zkeys z).length < 64
  l1 : z.own.length ≤ 1000
  l2 : z.gone.length ≤ 1000
  ok : ∀ k ∈ zkeys z, 0 ≤ k ∧ k < z.many
structure ZAt (H : Hp) (a o g : Addr) (z : Zs) : Prop where
  ha : H a = some (.dK (zL z.many z.common o g))
  ho : H o = some (.dK (ownK z.own))
  hg : H g = some (.dK (goneK z.gone))
  ao : a ≠ o
  ag : a ≠ g
  og : o ≠ g
  ok : Zok z
theorem ZAt.same {H H' : Hp} {a o g : Addr} {z : Zs} (h : ZAt H a o g z) (s : Same H H') : ZAt H' a o g z := ⟨s _ _ h.ha, s _ _ h.ho, s _ _ h.hg, h.ao, h.ag, h.og, h.ok⟩
theorem dg_many {H : Hp} {a o g : Addr} {n c : Int} (h : H a = some (.dK (zL n c o g))) : DGet H a (.str "many") (some (.int n)) := .inl ⟨_, Sum.inr "many", .inl h, rfl, zl_many n c o g⟩
theorem dg_common {H : Hp} {a o g : Addr} {n c : Int} (h : H a = some (.dK (zL n c o g))) : DGet H a (.str "common") (some (.int c)) := .inl ⟨_, Sum.inr "common", .inl h, rfl, zl_common n c o g⟩
theorem dg_own {H : Hp} {a o g : Addr} {n c : Int} (h : H a = some (.dK (zL n c o g))) : DGet H a (.str "own") (some (.ref o)) := .inl ⟨_, Sum.inr "own", .inl h, rfl, zl_own n c o g⟩
theorem dg_gone {H : Hp} {a o g : Addr} {n c : Int} (h : H a = some (.dK (zL n c o g))) : DGet H a (.str "gone") (some (.ref g)) := .inl ⟨_, Sum.inr "gone", .inl h, rfl, zl_gone n c o g⟩
theorem dg_own1 {H : Hp} {o : Addr} {own : List (Int × Int)} (h : H o = some (.dK (ownK own))) (k : Int) : DGet H o (.int k) ((zown own k).map V.int) := .inl ⟨_, Sum.inl k, .inl h, rfl, (own_val own k).symm⟩
theorem dg_gone1 {H : Hp} {g : Addr} {gone : List Int} (h : H g = some (.dK (goneK gone))) (k : Int) : DGet H g (.int k) (valV (goneK gone) (Sum.inl k)) := .inl ⟨_, Sum.inl k, .inl h, rfl, rfl⟩
def zst (z : Zs) (k : Int) : Int × Bool := ((zown z.own k).getD z.common, decide (k ∈ z.gone))
def zsz (z : Zs) (k : Int) : Int := if k ∈ z.gone then 0 else (zown z.own k).getD z.common
theorem opt_int (o : Option Int) (c : Int) : (o.map V.int).getD (.int c) = .int (o.getD c) := by cases o <;> rfl
def zah (z : Zs) (k : Int) : Int := k * z.common + (((zkeys z).filter fun j => decide (j < k)).map fun j => zsz z j - z.common).sum
def spZodd : Sp := fun vs H Q _ => ∃ (a o g : Addr) (z : Zs), vs = [.ref a] ∧ ZAt H a o g z ∧ ∀ (ys : List Int) (l : Addr) (H' : Hp), ys.Perm (zkeys z) → ys.Pairwise (· ≤ ·) → Same H H' → H' l = some (.lst (ys.map V.int)) → Q (.ref l) H'
def spZsize : Sp := fun vs H Q _ => ∃ (a o g : Addr) (z : Zs) (k : Int), vs = [.ref a, .int k] ∧ ZAt H a o g z ∧ Q (.int (zsz z k)) H
def spZahead : Sp := fun vs H Q _ => ∃ (a o g : Addr) (z : Zs) (k : Int), vs = [.ref a, .int k] ∧ ZAt H a o g z ∧ ∀ H', Same H H' → Q (.int (zah z k)) H'
/-- the two models say the same -/
structure Rel (s : Sz) (z : Zs) : Prop where
  many : s.many = z.many
  common : s.common = z.common
  st : ∀ k, stM s k = zst z k
  keys : (s.odd.map (·.1)).Perm (zkeys z)
theorem Rel.sz {s : Sz} {z : Zs} (r : Rel s z) (k : Int) : szM s k = zsz z k := by
  unfold szM zsz
  rw [r.st k]
  unfold zst
  by_cases h : k ∈ z.gone
  · simp [h]
  · simp [h]
theorem perm_sum {l l' : List Int} (p : l.Perm l') : l.sum = l'.sum := by
  induction p with
  | nil => rfl
  | cons x _ ih => simp [ih]
  | swap x y l => simp only [List.sum_cons]; omega
  | trans _ _ h1 h2 => rw [h1, h2]
theorem Rel.ah {s : Sz} {z : Zs} (r : Rel s z) (k : Int) : ahM s k = zah z k := by
  unfold ahM zah
  rw [r.common]
  congr 1
  have e : (fun j => szM s j - z.common) = fun j => zsz z j - z.common := by
    funext j
    rw [r.sz j]
  rw [e]
  exact perm_sum ((r.keys.filter _).map _)
theorem sorted_eq {l l' : List Int} (p : l.Perm l') (h : l.Pairwise (· ≤ ·)) (h' : l'.Pairwise (· ≤ ·)) : l = l' := by
  refine List.Perm.eq_of_pairwise (le := fun a b => a ≤ b) ?_ h h' p
  intro a b _ _ h1 h2
  omega
def spZst (K : PySem.W.Frag) (C : Addr) : Sp := fun vs H Q _ => ∃ (p d a o g l : Addr) (s : Sz) (z : Zs) (ns : List Int), vs = [.ref p, .ref a, .ref l] ∧ SzW C H p d s ∧ ZAt H a o g z ∧ Rel s z ∧ H l = some (.lst (ns.map V.int)) ∧ ns.length ≤ 1000 ∧ (∀ n ∈ ns, Sm n) ∧ ∀ H', Same H H' → Q (.bl true) H'
def spFar : Sp := fun vs H Q _ => ∃ a : Addr, vs = [.ref a] ∧ DrawAt H a ∧ ∀ (i : Int) (H' : Hp), Sm i → (i < -1000000 ∨ 1000000 < i) → Ext a H H' → Q (.int i) H'
def spZnew : Sp := fun vs H Q _ => ∃ n c : Int, vs = [.int n, .int c] ∧ (1 ≤ n ∧ n ≤ 1000000000) ∧ (1 ≤ c ∧ c ≤ 60) ∧ ∀ (a o g : Addr) (H' : Hp), Same H H' → ZAt H' a o g ⟨n, c, [], []⟩ → H a = none → H o = none → H g = none → Q (.ref a) H'
theorem Ext.pick {a : Addr} {H H1 : Hp} (d : DrawAt H1 a) (e : ∀ b, b ≠ a → H1 b = H b) : Ext a H H1 := ⟨d, fun b o n h => by rw [e b n]; exact h⟩
/-- a caught error asked for its class -/
def rIsX (K : PySem.W.Frag) (a : Addr) (cls : Value) (d : Option Addr) : List V → Hp → VK → Prop := fun xs H Q => ∃ (D : Addr) (c : V) (cv : Value) (b : Bool), cls = .ref D ∧ d = none ∧ ExcC K D ∧ xs = [.ref a, c] ∧ (∀ u, RelV c u → u = cv) ∧ PySem.W.kitOne K (.ref D) cv = some b ∧ Q (.bl b) H
theorem call_isX {X : Cx} {a : Addr} {oe : Obj} {cls : Value} {d : Option Addr} {pn : List (Addr × Obj)} (hz : Zc cls d oe) (hf : ∃ vs, oe.data = .fields vs) : CallR (X.suite a ((a, oe) :: pn)) (.builtin "isinstance") (rIsX X.K a cls d) := by
  intro pins s σ H xs us Q I r h
  obtain ⟨D, c, cv, b, rfl, rfl, e, h1, h2, h3, q⟩ := h
  exact call_isE e hz hf pins s σ H xs us Q I r ⟨c, cv, b, h1, h2, h3, q⟩
theorem glR {X : Cx} {x : Str} {C : Addr} {pos : Pos} (hg : Gl X x) (hm : X.mg x = some (.ref C)) (hd : (x == ("__debug__" : Str)) = false := by decide) : PE X (.Name x pos) (tC (.ref C)) := pe_glob hg hm rfl hd
theorem kit_own {K : PySem.W.Frag} {D C : Addr} {b : Bool} (hne : D ≠ C) (hc : PySem.W.isClsIn K C = true) (ht : PySem.W.typeIn K (.ref C) = some (.type "type")) (hs : PySem.W.subIn K (.ref D) (.ref C) = some b) : PySem.W.kitOne K (.ref D) (.ref C) = some b := by
  have h2 : (PySem.W.clsIn K C).isSome = true := hc
  have h1 : PySem.W.kitCls K (.ref D) (.ref C) = some b := by
    show (if ((PySem.W.clsIn K C).isSome && PySem.W.typeIn K (.ref C) == some (.type "type")) = true then PySem.W.subIn K (.ref D) (.ref C) else none) = some b
    rw [h2, ht, if_pos (by simp)]
    exact hs
  unfold PySem.W.kitOne
  rw [if_neg (by simpa using hne)]
  exact h1
theorem kit_same {K : PySem.W.Frag} {D : Addr} : PySem.W.kitOne K (.ref D) (.ref D) = some true := by
  unfold PySem.W.kitOne
  rw [if_pos (by simp)]
theorem kit_tyE {K : PySem.W.Frag} {D : Addr} {T : String} {b : Bool} (hm : PySem.W.kitMeta T = true) (hs : PySem.W.subIn K (.ref D) (.type T) = some b) : PySem.W.kitOne K (.ref D) (.type T) = some b := by
  unfold PySem.W.kitOne
  rw [if_neg (by simp)]
  show (if PySem.W.kitMeta T = true then PySem.W.subIn K (.ref D) (.type T) else none) = some b
  rw [if_pos hm]
  exact hs
theorem rel_ty {T : String} : ∀ u, RelV (.ty T) u → u = .type T := fun u h => h
theorem rel_ref {C : Addr} : ∀ u, RelV (.ref C) u → u = .ref C := fun u h => h
theorem call_reprD {X : Cx} {CX : CXT} {k : Nat} {C : Addr} {ps : List Str} {sp : Sp} {E : XK} (D : Mn X.prog X.w X.K X.mg X.base CX k C "__repr__" ps sp) (hr : Room (k + 1) X.A) (hx : Passes CX X E) : CallR X (.builtin "repr") (rRepr C sp E) := by
  obtain ⟨f, fd, F, hm, b⟩ := D
  exact call_repr F hm.at_ hm.fn b hr hx
def zexc (z : Zs) (k : Int) : Ex3 := (k, (zst z k).1, (zst z k).2)
theorem Rel.exc {s : Sz} {z : Zs} (r : Rel s z) (k : Int) : exc1 s k = zexc z k := by
  unfold exc1 zexc
  rw [r.st k]
def reprZ (n c : Int) : Str := ("Sizes " : Str) ++ (toString n : String) ++ (" " : Str) ++ (toString c : String)
theorem Rel.repr {s : Sz} {z : Zs} (r : Rel s z) : reprM s = reprZ z.many z.common := by
  unfold reprM reprZ
  rw [r.many, r.common, PySem.Str.empty_append]
theorem ex_mxl : ∀ es : List Ex3, mxlAll (es.map exD) ≤ 3
  | [] => by simp [mxlAll]
  | e :: r => by
    have := ex_mxl r
    simp only [List.map_cons, mxlAll, exD, mxl, List.length_cons, List.length_nil]
    omega
theorem ex_depth : ∀ es : List Ex3, PyData.depthAll (es.map exD) ≤ 1
  | [] => by simp [PyData.depthAll]
  | e :: r => by
    have := ex_depth r
    simp only [List.map_cons, PyData.depthAll, exD, PyData.depth]
    omega
end Gs
namespace Gs
open PySem L2
/-! ### an instance made with a keyword-only argument -/
def Cn (P : Program) (w : World) (K : PySem.W.Frag) (mg : Str → Option Value) (base : Heap) (CX : CXT) (k : Nat) (C : Addr) (x : Str) (sp : Sp) : Prop :=
  ∃ (f : Addr) (fd : FuncData), FnOk P w K mg base CX k f fd ["self", "many", "common"] sp ∧ Mk K C f ∧ mg x = some (.ref C) ∧ KBn K fd ["self", "many", "common"] 2 ["common"] (fun us ws => us ++ ws) (fun vs zs => vs ++ zs)
section
variable {X : Cx} {CX : CXT} {k : Nat} {C : Addr} {sp : Sp} {x : Str} {p pos : Pos} {e : Expr} {kws : List Keyword} {t tk : TA}
theorem pe_mkD {E : XK} (D : Cn X.prog X.w X.K X.mg X.base CX k C x sp) (hr : Room (k + 1) X.A) (hg : Gl X x) (hx : Passes CX X E) (ha : PA X [e] t) (hkw : PK X kws tk)
    (hall : (backToKw pos (keywordEach kws X.env)).all (·.1.isSome) = true := by rfl) (hks : (backToKw pos (keywordEach kws X.env)).filterMap (·.1) = ([("common" : Str)] : List Str) := by rfl) (hdb : (x == ("__debug__" : Str)) = false := by decide)
    (he : starEach [e] X.env = (false, eval e X.env) :: starEach [] X.env := by rfl) (hpl : ((backTo pos (starEach [e] X.env)).any (·.1) || (backToKw pos (keywordEach kws X.env)).any (·.1.isNone)) = false := by rfl) :
    PE X (.Call (.Name x p) [e] kws pos) (tMakeK C 1 1 sp (fun vs zs => vs ++ zs) E t tk) := by
  obtain ⟨f, fd, F, M, m, b⟩ := D
  exact pe_makeK M F hr hg m b hx ha hkw hall hks hdb he hpl
def tMakeAt (C : Addr) (sp : Sp) (E : St → XK) (t tk : TA) : TE := fun σ H Q => t σ H fun vs H1 => tk σ H1 fun zs H2 => vs.length = 1 ∧ zs.length = 1 ∧ ∀ x dx, H2 x = none → H2 dx = none → dx ≠ x →
  sp ((.ref x :: vs) ++ zs) (upd (upd H2 dx (.own x)) x (.ins C dx [])) (fun v H3 => v = .non ∧ Q (.ref x) H3) (E σ)
theorem pe_mkSD {E : St → XK} (D : Cn X.prog X.w X.K X.mg X.base CX k C x sp) (hr : Room (k + 1) X.A) (hg : Gl X x) (hx : ∀ σ, PassesAt CX X σ (E σ)) (ha : PA X [e] t) (hkw : PK X kws tk)
    (hall : (backToKw pos (keywordEach kws X.env)).all (·.1.isSome) = true := by rfl) (hks : (backToKw pos (keywordEach kws X.env)).filterMap (·.1) = ([("common" : Str)] : List Str) := by rfl) (hdb : (x == ("__debug__" : Str)) = false := by decide)
    (he : starEach [e] X.env = (false, eval e X.env) :: starEach [] X.env := by rfl) (hpl : ((backTo pos (starEach [e] X.env)).any (·.1) || (backToKw pos (keywordEach kws X.env)).any (·.1.isNone)) = false := by rfl) :
    PE X (.Call (.Name x p) [e] kws pos) (tMakeAt C sp E t tk) := by
  obtain ⟨f, fd, F, M, m, hb⟩ := D
  refine ⟨fun pins s σ H Q I h => wpAny_Call_Name_kw (ld_glob I hg m (PySem.W.callWith_KW (h₀ := X.base) I.ok.mod.kin M.kp hall (thn (ha.run pos pins s σ H _ I h) fun us s1 hh => ?_) hpl he) hdb)⟩
  obtain ⟨vs, H1, I1, r, q⟩ := hh
  refine thn (hkw.run pos pins s1 σ H1 _ I1 q) fun ws s2 hh => ?_
  obtain ⟨zs, H2, I2, rz, l1, l2, q2⟩ := hh
  refine ⟨I2.kIn, ?_⟩
  rw [hks]
  obtain ⟨y, ey⟩ : ∃ y, y = s2.heap.objs.size := ⟨_, rfl⟩
  have hq := q2 (y + 1) y (I2.hok.fresh (by omega)) (I2.hok.fresh (by omega)) (Nat.ne_of_lt (Nat.lt_succ_self y))
  subst ey
  have J := Inv.made (C := C) I2
  have n1 : (Value.ref (s2.heap.objs.size + 1) :: us).length = 2 := by rw [List.length_cons, ← r.length, l1]
  have n2 : ws.length = 1 := by rw [← rz.length, l2]
  have b2 := hb.to _ (Value.ref (s2.heap.objs.size + 1) :: us) ws J.kIn n1 n2
  have r2 : Vals ((V.ref (s2.heap.objs.size + 1) :: vs) ++ zs) ((Value.ref (s2.heap.objs.size + 1) :: us) ++ ws) := Vals.append (.cons rfl r) rz
  refine wpAny_call (make_map (f := f) I2.kIn M.makes M.init (beq_iff_eq.mp M.fn) (codeAny_mono (F.run _ X.stack _ _ ⟨_, ([("common" : Str)] : List Str).zip ws⟩ _ _ _ (E σ) (hr.make C us _) (J.env0.make C us _) b2 r2 hq) fun rr s' hq' => ?_))
  cases rr with
  | error e => exact hx σ pins _ _ e s' J hq'
  | ok fl =>
    cases fl with
    | ret u =>
      obtain ⟨v, H', I3, rv, ev, q3⟩ := J.after hq'
      subst ev
      exact ⟨rv, V.ref _, H', I3, rfl, q3⟩
    | next => exact False.elim hq'
    | brk => exact False.elim hq'
    | cont => exact False.elim hq'
end
end Gs
namespace Gs
open PySem L2
def Cn1 (P : Program) (w : World) (K : PySem.W.Frag) (mg : Str → Option Value) (base : Heap) (CX : CXT) (k : Nat) (C : Addr) (x : Str) (sp : Sp) : Prop :=
  ∃ (f : Addr) (fd : FuncData) (ds : List Value), FnOk P w K mg base CX k f fd ["self", "many", "common"] sp ∧ Mk K C f ∧ mg x = some (.ref C) ∧ Vals [.int 1] ds ∧ Binds K fd ["self", "many", "common"] ds
theorem pe_mk1D {X : Cx} {CX : CXT} {k : Nat} {C : Addr} {sp : Sp} {x : Str} {p pos : Pos} {e : Expr} {t : TA} {E : XK} (D : Cn1 X.prog X.w X.K X.mg X.base CX k C x sp) (hr : Room (k + 1) X.A) (hg : Gl X x) (hx : Passes CX X E) (ha : PA X [e] t) (hdb : (x == ("__debug__" : Str)) = false := by decide)
    (he : starEach [e] X.env = (false, eval e X.env) :: starEach [] X.env := by rfl) (hpl : (backTo pos (starEach [] X.env)).any (·.1) = false := by rfl) : PE X (.Call (.Name x p) [e] [] pos) (tMake C sp [.int 1] E t) := by
  obtain ⟨f, fd, ds, F, M, m, v, b⟩ := D
  exact pe_make M F hr hg m b v hx ha hdb he hpl
def EqR0 (C : Addr) (a b : Addr) (H : Hp) : Prop := ∃ d e n c, SzW C H a d ⟨n, c, []⟩ ∧ SzW C H b e ⟨n, c, []⟩
theorem op_eqOwn {X : Cx} {CX : CXT} {k : Nat} {C : Addr} {ps : List Str} {R : Addr → Addr → Hp → Prop} {E : XK} (D : Mn X.prog X.w X.K X.mg X.base CX k C "__eq__" ps (spEq R)) (hr : Room k X.A) (hx : Passes CX X E) : OpR X (compareOp .Eq) (rEqG (DIns C R)) := by
  obtain ⟨f, fd, F, hm, b⟩ := D
  exact op_eqG (rcG_ins F hm.at_ hm.fn b hx) hr
theorem new2 {H : Hp} {x dx : Addr} (hx : H x = none) (hd : H dx = none) (ne : dx ≠ x) (o u : HO) : Same H (upd (upd H dx o) x u) := fun b v q => by
  rw [upd_ne (ne_of_none q hx), upd_ne (ne_of_none q hd)]
  exact q
def goodS (n c : Int) : Prop := (1 ≤ n ∧ n ≤ 1000000) ∧ (1 ≤ c ∧ c ≤ 60)
def spMade (C : Addr) : Sp := fun vs H Q _ => ∃ n c : Int, vs = [.int n, .int c] ∧ Sm n ∧ Sm c ∧ (goodS n c → ∀ (p d : Addr) (H' : Hp), Same H H' → SzW C H' p d ⟨n, c, []⟩ → Q (.ref p) H') ∧
  (¬ goodS n c → ∀ (l : Addr) (H' : Hp), Same H H' → H' l = some (.lst [.bl (!decide (1 ≤ n ∧ n ≤ 1000000)), .bl (decide (1 ≤ n ∧ n ≤ 1000000)), .bl true]) → Q (.ref l) H')
def spRef (C : Addr) : Sp := fun vs H Q _ => ∃ (p d : Addr) (z : Sz) (i way : Int), vs = [.ref p, .int i, .int way] ∧ SzW C H p d z ∧ Sm i ∧ (0 ≤ way ∧ way < 4) ∧ (way = 3 → ¬ (0 ≤ i ∧ i ≤ z.many)) ∧ (way ≠ 3 → ¬ inR z i) ∧ ∀ H', Same H H' → Q (.bl true) H'
theorem merge_zL (n c : Int) (o g : Addr) : mergeK [] (zL n c o g) = zL n c o g := by
  simp [mergeK, zL, putK, nz1, nz2, nz3, nz4, nz5, nz6]
end Gs

set_option Elab.async false
set_option linter.all false
set_option maxRecDepth 100000
set_option maxHeartbeats 4000000
namespace Gs
open PySem L2
/-! ### what is kept of a thing -/
def dropO (odd : List OddE) (i : Int) : List OddE := odd.filter fun e => decide (e.1 ≠ i)
def putO (odd : List OddE) (i : Int) (x : Int × Bool) : List OddE := if (odd.any fun e => decide (e.1 = i)) = true then odd.map (fun e => if e.1 = i then (e.1, x) else e) else odd ++ [(i, x)]
theorem inl_eq {a b : Int} : ((Sum.inl a : Key) = Sum.inl b) ↔ a = b := ⟨fun h => by injection h, fun h => by rw [h]⟩
theorem OddAt.drop {H : Hp} (i : Int) : ∀ {kvs : List (Key × V)} {odd : List OddE}, OddAt H kvs odd → OddAt H (dropK kvs (Sum.inl i)) (dropO odd i)
  | _, _, .nil => .nil
  | (k, v) :: kvs, e :: odd, .cons ⟨h1, t, h2, h3⟩ r => by
    have ih := OddAt.drop i r
    simp only at h1
    subst h1
    unfold dropK dropO at *
    by_cases h : e.1 = i
    · rw [List.filter_cons_of_neg (by simp [h]), List.filter_cons_of_neg (by simp [h])]
      exact ih
    · rw [List.filter_cons_of_pos (by simp [h]), List.filter_cons_of_pos (by simp [h])]
      exact .cons ⟨rfl, t, h2, h3⟩ ih
theorem OddAt.any {H : Hp} (i : Int) : ∀ {kvs : List (Key × V)} {odd : List OddE}, OddAt H kvs odd → (kvs.any fun kv => decide (kv.1 = Sum.inl i)) = odd.any fun e => decide (e.1 = i)
  | _, _, .nil => rfl
  | (k, v) :: kvs, e :: odd, .cons ⟨h1, _⟩ r => by
    simp only at h1
    subst h1
    rw [List.any_cons, List.any_cons, OddAt.any i r]
    congr 1
    exact decide_eq_decide.mpr inl_eq
theorem OddAt.mapped {H : Hp} (i : Int) {t : Addr} {x : Int × Bool} (ht : H t = some (.tup [.int x.1, .bl x.2])) : ∀ {kvs : List (Key × V)} {odd : List OddE}, OddAt H kvs odd → OddAt H (kvs.map fun kv => if kv.1 = Sum.inl i then (kv.1, .ref t) else kv) (odd.map fun e => if e.1 = i then (e.1, x) else e)
  | _, _, .nil => .nil
  | (k, v) :: kvs, e :: odd, .cons ⟨h1, u, h2, h3⟩ r => by
    simp only at h1
    subst h1
    rw [List.map_cons, List.map_cons]
    by_cases h : e.1 = i
    · rw [if_pos h, if_pos (inl_eq.mpr h)]
      exact .cons ⟨rfl, t, rfl, ht⟩ (OddAt.mapped i ht r)
    · rw [if_neg h, if_neg (fun z => h (inl_eq.mp z))]
      exact .cons ⟨rfl, u, h2, h3⟩ (OddAt.mapped i ht r)
theorem OddAt.snoc {H : Hp} {t : Addr} {i : Int} {x : Int × Bool} (ht : H t = some (.tup [.int x.1, .bl x.2])) : ∀ {kvs : List (Key × V)} {odd : List OddE}, OddAt H kvs odd → OddAt H (kvs ++ [(Sum.inl i, .ref t)]) (odd ++ [(i, x)])
  | _, _, .nil => .cons ⟨rfl, t, rfl, ht⟩ .nil
  | _, _, .cons a r => .cons a (OddAt.snoc ht r)
theorem OddAt.put {H : Hp} {t : Addr} {i : Int} {x : Int × Bool} (ht : H t = some (.tup [.int x.1, .bl x.2])) {kvs : List (Key × V)} {odd : List OddE} (h : OddAt H kvs odd) : OddAt H (putK kvs (Sum.inl i) (.ref t)) (putO odd i x) := by
  unfold putK putO
  rw [h.any i]
  by_cases c : (odd.any fun e => decide (e.1 = i)) = true
  · rw [if_pos c, if_pos c]
    exact h.mapped i ht
  · rw [if_neg c, if_neg c]
    exact h.snoc ht
/-! ### what a look finds behind it -/
theorem look_cons (e : OddE) (r : List OddE) (k : Int) : look (e :: r) k = if e.1 = k then some e.2 else look r k := by
  by_cases h : e.1 = k
  · simp [look, h]
  · simp [look, h]
theorem look_append (a b : List OddE) (k : Int) : look (a ++ b) k = (look a k).or (look b k) := by
  induction a with
  | nil => simp [look]
  | cons e r ih =>
    rw [List.cons_append, look_cons, look_cons, ih]
    by_cases h : e.1 = k
    · simp [h]
    · simp [h]
theorem look_drop (odd : List OddE) (i k : Int) : look (dropO odd i) k = if k = i then none else look odd k := by
  induction odd with
  | nil => simp [dropO, look]
  | cons e r ih =>
    unfold dropO at *
    by_cases h : e.1 = i
    · rw [List.filter_cons_of_neg (by simp [h]), ih, look_cons]
      by_cases hk : k = i
      · simp [hk]
      · have : ¬ e.1 = k := fun z => hk (by omega)
        simp [hk, this]
    · rw [List.filter_cons_of_pos (by simp [h]), look_cons, look_cons, ih]
      by_cases hk : e.1 = k
      · have : ¬ k = i := fun z => h (by omega)
        simp [hk, this]
      · simp [hk]
theorem look_mapped (odd : List OddE) (i k : Int) (x : Int × Bool) : look (odd.map fun e => if e.1 = i then (e.1, x) else e) k = (look odd k).map fun y => if k = i then x else y := by
  induction odd with
  | nil => simp [look]
  | cons e r ih =>
    rw [List.map_cons, look_cons, look_cons, ih]
    by_cases h : e.1 = i
    · rw [if_pos h]
      by_cases hk : e.1 = k
      · have : k = i := by omega
        simp [hk, this]
      · simp [hk]
    · rw [if_neg h]
      by_cases hk : e.1 = k
      · have : ¬ k = i := by omega
        simp [hk, this]
      · simp [hk]
theorem look_any (odd : List OddE) (i : Int) : (odd.any fun e => decide (e.1 = i)) = (look odd i).isSome := by
  induction odd with
  | nil => rfl
  | cons e r ih =>
    rw [List.any_cons, look_cons, ih]
    by_cases h : e.1 = i
    · simp [h]
    · simp [h]
theorem look_put (odd : List OddE) (i k : Int) (x : Int × Bool) : look (putO odd i x) k = if k = i then some x else look odd k := by
  unfold putO
  rw [look_any]
  by_cases c : (look odd i).isSome = true
  · rw [if_pos c, look_mapped]
    by_cases h : k = i
    · subst h
      rw [if_pos rfl]
      obtain ⟨y, e⟩ := Option.isSome_iff_exists.mp c
      rw [e]
      simp
    · simp [h]
  · rw [if_neg c, look_append]
    have c' : look odd i = none := by simpa using c
    by_cases h : k = i
    · subst h
      rw [c']
      simp [look]
    · have : look [(i, x)] k = none := by simp [look]; omega
      rw [this]
      simp [h]
theorem look_mem {odd : List OddE} {i : Int} {x : Int × Bool} (h : look odd i = some x) : (i, x) ∈ odd := by
  induction odd with
  | nil => cases h
  | cons e r ih =>
    rw [look_cons] at h
    by_cases c : e.1 = i
    · rw [if_pos c] at h
      have := Option.some.inj h
      subst this
      rw [← c]
      exact List.mem_cons_self
    · rw [if_neg c] at h
      exact List.mem_cons_of_mem _ (ih h)
theorem look_key {odd : List OddE} {i : Int} : i ∈ odd.map (·.1) ↔ (look odd i).isSome = true := by
  rw [← look_any, List.any_eq_true]
  simp only [List.mem_map, decide_eq_true_eq]
theorem look_of {odd : List OddE} (nd : (odd.map (·.1)).Nodup) {e : OddE} (h : e ∈ odd) : look odd e.1 = some e.2 := by
  induction odd with
  | nil => cases h
  | cons f r ih =>
    rw [List.map_cons, List.nodup_cons] at nd
    rw [look_cons]
    rcases List.mem_cons.mp h with rfl | h
    · rw [if_pos rfl]
    · have : ¬ f.1 = e.1 := fun z => nd.1 (by rw [z]; exact List.mem_map_of_mem h)
      rw [if_neg this]
      exact ih nd.2 h
def keepM (z : Sz) (i own : Int) (hid : Bool) : Sz := ⟨z.many, z.common, if own = z.common ∧ hid = false then dropO z.odd i else putO z.odd i (own, hid)⟩
def fullM (z : Sz) (i own : Int) (hid : Bool) : Prop := ¬ (own = z.common ∧ hid = false) ∧ look z.odd i = none ∧ 60 ≤ z.odd.length
theorem keep_st {z : Sz} {i own : Int} {hid : Bool} (k : Int) : stM (keepM z i own hid) k = if k = i then (own, hid) else stM z k := by
  unfold stM keepM
  by_cases c : own = z.common ∧ hid = false
  · simp only [if_pos c]
    rw [look_drop]
    by_cases h : k = i
    · simp [h, c.1, c.2]
    · simp [h]
  · simp only [if_neg c]
    rw [look_put]
    by_cases h : k = i
    · simp [h]
    · simp [h]
theorem nodup_filter {α : Type} {p : α → Bool} {l : List α} (h : l.Nodup) : (l.filter p).Nodup := List.Pairwise.filter p h
theorem map_filter_key (odd : List OddE) (i : Int) : (dropO odd i).map (·.1) = (odd.map (·.1)).filter fun k => decide (k ≠ i) := by
  unfold dropO
  rw [List.filter_map]
  rfl
theorem map_mapped_key (odd : List OddE) (i : Int) (x : Int × Bool) : (odd.map fun e => if e.1 = i then (e.1, x) else e).map (·.1) = odd.map (·.1) := by
  rw [List.map_map]
  refine List.map_congr_left fun e _ => ?_
  show (if e.1 = i then (e.1, x) else e).1 = e.1
  by_cases h : e.1 = i
  · rw [if_pos h]
  · rw [if_neg h]
theorem putO_len (odd : List OddE) (i : Int) (x : Int × Bool) : (putO odd i x).length ≤ odd.length + 1 := by
  unfold putO
  split
  · rw [List.length_map]; omega
  · rw [List.length_append]; exact Nat.le_refl _
theorem keep_len (z : Sz) (i own : Int) (hid : Bool) : (keepM z i own hid).odd.length ≤ z.odd.length + 1 := by
  unfold keepM
  by_cases c : own = z.common ∧ hid = false
  · simp only [if_pos c]
    exact Nat.le_succ_of_le (List.length_filter_le _ _)
  · simp only [if_neg c]
    exact putO_len _ _ _
theorem keep_wf {z : Sz} {i own : Int} {hid : Bool} (W : Wf z) (hi : inR z i) (h0 : 1 ≤ own) (h1 : own ≤ 60) (nf : ¬ fullM z i own hid) : Wf (keepM z i own hid) := by
  obtain ⟨m0, m1, c0, c1, nd, le, ok⟩ := W
  by_cases c : own = z.common ∧ hid = false
  · have e : keepM z i own hid = ⟨z.many, z.common, dropO z.odd i⟩ := by unfold keepM; simp only [if_pos c]
    rw [e]
    refine ⟨m0, m1, c0, c1, ?_, ?_, ?_⟩
    · show ((dropO z.odd i).map (·.1)).Nodup
      rw [map_filter_key]
      exact nodup_filter nd
    · exact Nat.le_trans (List.length_filter_le _ _) le
    · intro e he
      exact ok e (List.mem_filter.mp he).1
  · have e : keepM z i own hid = ⟨z.many, z.common, putO z.odd i (own, hid)⟩ := by unfold keepM; simp only [if_neg c]
    rw [e]
    have good : own ≠ z.common ∨ hid = true := by
      by_cases q : own = z.common
      · right
        cases hid
        · exact absurd ⟨q, rfl⟩ c
        · rfl
      · exact .inl q
    by_cases a : (z.odd.any fun e => decide (e.1 = i)) = true
    · have e2 : putO z.odd i (own, hid) = z.odd.map fun e => if e.1 = i then (e.1, (own, hid)) else e := by unfold putO; rw [if_pos a]
      rw [e2]
      refine ⟨m0, m1, c0, c1, ?_, ?_, ?_⟩
      · show ((z.odd.map fun e => if e.1 = i then (e.1, (own, hid)) else e).map (·.1)).Nodup
        rw [map_mapped_key]
        exact nd
      · show (z.odd.map _).length ≤ 60
        rw [List.length_map]
        exact le
      · intro e he
        obtain ⟨e', he', rfl⟩ := List.mem_map.mp he
        have := ok e' he'
        by_cases q : e'.1 = i
        · rw [if_pos q]
          exact ⟨this.1, this.2.1, h0, h1, good⟩
        · rw [if_neg q]
          exact this
    · have e2 : putO z.odd i (own, hid) = z.odd ++ [(i, (own, hid))] := by unfold putO; rw [if_neg a]
      rw [e2]
      rw [look_any] at a
      have a' : look z.odd i = none := by simpa using a
      refine ⟨m0, m1, c0, c1, ?_, ?_, ?_⟩
      · show ((z.odd ++ [(i, (own, hid))]).map (·.1)).Nodup
        rw [List.map_append, List.nodup_append]
        refine ⟨nd, by simp, ?_⟩
        intro k hk b hb e
        simp at hb
        rw [e, hb, look_key, a'] at hk
        cases hk
      · show (z.odd ++ [(i, (own, hid))]).length ≤ 60
        rw [List.length_append]
        have : ¬ 60 ≤ z.odd.length := fun q => nf ⟨c, a', q⟩
        show z.odd.length + 1 ≤ 60
        omega
      · intro e he
        rcases List.mem_append.mp he with he | he
        · exact ok e he
        · simp at he
          rw [he]
          exact ⟨hi.1, hi.2, h0, h1, good⟩
/-- all but the thing at d is as it was -/
def Frm (d : Addr) (H H' : Hp) : Prop := ∀ b o, b ≠ d → H b = some o → H' b = some o
theorem Frm.of {d : Addr} {H H' : Hp} (s : Same H H') : Frm d H H' := fun b o _ h => s b o h
theorem Frm.trans {d : Addr} {H H1 H2 : Hp} (a : Frm d H H1) (b : Frm d H1 H2) : Frm d H H2 := fun c o n h => b c o n (a c o n h)
theorem Frm.upd {d : Addr} {H : Hp} (o : HO) : Frm d H (L2.upd H d o) := fun b v n h => by rw [upd_ne n]; exact h
theorem upd_self {H : Hp} {a : Addr} {o : HO} (h : H a = some o) : upd H a o = H := by
  funext b
  by_cases e : b = a
  · subst e
    rw [upd_same, h]
  · rw [upd_ne e]
theorem dropK_none {kvs : List (Key × V)} {k : Key} (h : valV kvs k = none) : dropK kvs k = kvs := by
  unfold dropK
  rw [List.filter_eq_self]
  intro kv hk
  have h2 : (kvs.any fun kv => decide (kv.1 = k)) = false := by rw [valV_any, h]; rfl
  rw [List.any_eq_false] at h2
  have := h2 kv hk
  simpa using this
theorem sameU {H H' : Hp} (s : Same H H') {x : Addr} (h : H x = none) (o : HO) : Same H (upd H' x o) := fun b v q => by rw [upd_ne (ne_of_none q h)]; exact s b v q
/-- d.pop(k, x): in both cases what is left -/
theorem pop_both {H : Hp} {a : Addr} {kvs : List (Key × V)} {k : Key} {z : V} {Q : V → Hp → Prop} (h : H a = some (.dK kvs)) (q : ∀ v, Q v (upd H a (.dK (dropK kvs k)))) : (∀ v, valV kvs k = some v → Q v (upd H a (.dK (dropK kvs k)))) ∧ (valV kvs k = none → Q z H) := by
  refine ⟨fun v _ => q v, fun e => ?_⟩
  have := q z
  rw [dropK_none e, upd_self h] at this
  exact this
def spKeep (C cF : Addr) : Sp := fun vs H Q E => ∃ (p d : Addr) (z : Sz) (i own : Int) (hid : Bool), vs = [.ref p, .int i, .int own, .bl hid] ∧ SzW C H p d z ∧ inR z i ∧ 1 ≤ own ∧ own ≤ 60 ∧
  (¬ fullM z i own hid → ∀ H', Frm d H H' → SzW C H' p d (keepM z i own hid) → Q .non H') ∧ (fullM z i own hid → E (.ref cF) none H)
def spGive (C cN cS cF : Addr) : Sp := fun vs H Q E => ∃ (p d : Addr) (z : Sz) (i size : Int), vs = [.ref p, .int i, .int size] ∧ SzW C H p d z ∧ Sm i ∧ Sm size ∧
  (inR z i → 1 ≤ size → size ≤ 60 → ¬ fullM z i size (stM z i).2 → ∀ H', Frm d H H' → SzW C H' p d (keepM z i size (stM z i).2) → Q .non H') ∧ (¬ inR z i → E (.ref cN) none H) ∧
  (inR z i → ¬ (1 ≤ size ∧ size ≤ 60) → ∀ H', Same H H' → E (.ref cS) none H') ∧ (inR z i → 1 ≤ size → size ≤ 60 → fullM z i size (stM z i).2 → ∀ H', Same H H' → E (.ref cF) none H')
/-- hide, show, plain -/
def spTo (C cN cF : Addr) (g : Sz → Int → Int × Bool) : Sp := fun vs H Q E => ∃ (p d : Addr) (z : Sz) (i : Int), vs = [.ref p, .int i] ∧ SzW C H p d z ∧ Sm i ∧
  (inR z i → ¬ fullM z i (g z i).1 (g z i).2 → ∀ H', Frm d H H' → SzW C H' p d (keepM z i (g z i).1 (g z i).2) → Q .non H') ∧ (¬ inR z i → E (.ref cN) none H) ∧
  (inR z i → fullM z i (g z i).1 (g z i).2 → ∀ H', Same H H' → E (.ref cF) none H')
abbrev gHide : Sz → Int → Int × Bool := fun z i => ((stM z i).1, true)
abbrev gShow : Sz → Int → Int × Bool := fun z i => ((stM z i).1, false)
abbrev gPlain : Sz → Int → Int × Bool := fun z i => (z.common, (stM z i).2)
theorem st_range {z : Sz} (W : Wf z) (i : Int) : 1 ≤ (stM z i).1 ∧ (stM z i).1 ≤ 60 := by
  have e : stM z i = (look z.odd i).getD (z.common, false) := rfl
  cases h : look z.odd i with
  | none => rw [e, h]; exact ⟨W.c0, W.c1⟩
  | some x => rw [e, h]; exact ⟨(W.ok _ (look_mem h)).2.2.1, (W.ok _ (look_mem h)).2.2.2.1⟩
theorem SzW.frm {C : Addr} {H H' : Hp} {p d e : Addr} {z : Sz} (S : SzW C H p d z) (n1 : p ≠ e) (n2 : d ≠ e) (he : ∀ t xs, H t = some (.tup xs) → t ≠ e) (f : Frm e H H') : SzW C H' p d z := by
  obtain ⟨dx, kvs, h1, h2, h3, W⟩ := S
  exact ⟨dx, kvs, f _ _ n1 h1, f _ _ n2 h2, h3.mono fun t xs q => f _ _ (he t xs q) q, W⟩
/-! ### the law's own dict, changed -/
structure Zw (z : Zs) : Prop where
  nd : (z.own.map (·.1)).Nodup
  ne : ∀ e ∈ z.own, e.2 ≠ z.common
  ng : z.gone.Nodup
def zwithM (z : Zs) (k size : Int) (hid : Bool) : Zs := ⟨z.many, z.common, (z.own.filter fun e => decide (e.1 ≠ k)) ++ (if size ≠ z.common then [(k, size)] else []), (z.gone.filter fun j => decide (j ≠ k)) ++ (if hid = true then [k] else [])⟩
theorem zown_cons (e : Int × Int) (r : List (Int × Int)) (k : Int) : zown (e :: r) k = if e.1 = k then some e.2 else zown r k := by
  by_cases h : e.1 = k
  · simp [zown, h]
  · simp [zown, h]
theorem zown_append (a b : List (Int × Int)) (k : Int) : zown (a ++ b) k = (zown a k).or (zown b k) := by
  induction a with
  | nil => simp [zown]
  | cons e r ih =>
    rw [List.cons_append, zown_cons, zown_cons, ih]
    by_cases h : e.1 = k
    · simp [h]
    · simp [h]
theorem zown_drop (own : List (Int × Int)) (i k : Int) : zown (own.filter fun e => decide (e.1 ≠ i)) k = if k = i then none else zown own k := by
  induction own with
  | nil => simp [zown]
  | cons e r ih =>
    by_cases h : e.1 = i
    · rw [List.filter_cons_of_neg (by simp [h]), ih, zown_cons]
      by_cases hk : k = i
      · simp [hk]
      · have : ¬ e.1 = k := fun z => hk (by omega)
        simp [hk, this]
    · rw [List.filter_cons_of_pos (by simp [h]), zown_cons, zown_cons, ih]
      by_cases hk : e.1 = k
      · have : ¬ k = i := fun z => h (by omega)
        simp [hk, this]
      · simp [hk]
theorem zown_key {own : List (Int × Int)} {i : Int} : i ∈ own.map (·.1) ↔ (zown own i).isSome = true := by
  induction own with
  | nil => simp [zown]
  | cons e r ih =>
    rw [List.map_cons, List.mem_cons, zown_cons, ih]
    by_cases h : e.1 = i
    · simp [h]
    · have : ¬ i = e.1 := fun z => h z.symm
      simp [h, this]
theorem zown_mem {own : List (Int × Int)} {i x : Int} (h : zown own i = some x) : (i, x) ∈ own := by
  induction own with
  | nil => cases h
  | cons e r ih =>
    rw [zown_cons] at h
    by_cases c : e.1 = i
    · rw [if_pos c] at h
      have := Option.some.inj h
      subst this
      rw [← c]
      exact List.mem_cons_self
    · rw [if_neg c] at h
      exact List.mem_cons_of_mem _ (ih h)
theorem zwith_st1 (z : Zs) (k size : Int) (hid : Bool) (j : Int) : (zown (zwithM z k size hid).own j).getD z.common = if j = k then size else (zown z.own j).getD z.common := by
  show (zown ((z.own.filter fun e => decide (e.1 ≠ k)) ++ (if size ≠ z.common then [(k, size)] else [])) j).getD z.common = _
  rw [zown_append, zown_drop]
  by_cases h : j = k
  · subst h
    by_cases c : size = z.common
    · simp [c, zown]
    · simp [c, zown]
  · have h1 : zown (if size ≠ z.common then [(k, size)] else []) j = none := by
      by_cases c : size = z.common
      · simp [c, zown]
      · simp [c, zown]; omega
    rw [h1, Option.or_none, if_neg h, if_neg h]
theorem zwith_st2 (z : Zs) (k size : Int) (hid : Bool) (j : Int) : j ∈ (zwithM z k size hid).gone ↔ if j = k then hid = true else j ∈ z.gone := by
  show j ∈ ((z.gone.filter fun i => decide (i ≠ k)) ++ (if hid = true then [k] else [])) ↔ _
  rw [List.mem_append, List.mem_filter]
  by_cases h : j = k
  · subst h
    cases hid <;> simp
  · cases hid <;> simp [h]
theorem zwith_st (z : Zs) (k size : Int) (hid : Bool) (j : Int) : zst (zwithM z k size hid) j = if j = k then (size, hid) else zst z j := by
  have h1 : (zst (zwithM z k size hid) j).1 = if j = k then size else (zown z.own j).getD z.common := zwith_st1 z k size hid j
  have h2 : (zst (zwithM z k size hid) j).2 = decide (if j = k then hid = true else j ∈ z.gone) := decide_eq_decide.mpr (zwith_st2 z k size hid j)
  refine Prod.ext ?_ ?_
  · rw [h1]
    by_cases h : j = k
    · simp [h]
    · simp [h, zst]
  · rw [h2]
    by_cases h : j = k
    · simp [h]
    · simp [h, zst]
theorem zwith_w {z : Zs} (w : Zw z) (k size : Int) (hid : Bool) : Zw (zwithM z k size hid) := by
  refine ⟨?_, ?_, ?_⟩
  · show (((z.own.filter fun e => decide (e.1 ≠ k)) ++ (if size ≠ z.common then [(k, size)] else [])).map (·.1)).Nodup
    rw [List.map_append, List.nodup_append]
    refine ⟨?_, ?_, ?_⟩
    · have e : (z.own.filter fun e => decide (e.1 ≠ k)).map (·.1) = (z.own.map (·.1)).filter fun j => decide (j ≠ k) := by
        rw [List.filter_map]
        rfl
      rw [e]
      exact nodup_filter w.nd
    · split <;> simp
    · intro a ha b hb e
      obtain ⟨x, hx, rfl⟩ := List.mem_map.mp ha
      have h1 := (List.mem_filter.mp hx).2
      have h1' : x.1 ≠ k := of_decide_eq_true h1
      split at hb
      · simp at hb
        exact h1' (by rw [e, hb])
      · simp at hb
  · intro e he
    rcases List.mem_append.mp he with he | he
    · exact w.ne e (List.mem_filter.mp he).1
    · split at he
      · simp at he
        rw [he]
        assumption
      · simp at he
  · show ((z.gone.filter fun j => decide (j ≠ k)) ++ (if hid = true then [k] else [])).Nodup
    rw [List.nodup_append]
    refine ⟨nodup_filter w.ng, ?_, ?_⟩
    · split <;> simp
    · intro a ha b hb e
      have h1 : a ≠ k := of_decide_eq_true (List.mem_filter.mp ha).2
      split at hb
      · simp at hb
        exact h1 (by rw [e, hb])
      · simp at hb
theorem zkeys_nd {z : Zs} (w : Zw z) : (zkeys z).Nodup := by
  unfold zkeys
  rw [List.nodup_append]
  refine ⟨w.nd, nodup_filter w.ng, ?_⟩
  intro a ha b hb e
  have h1 := (List.mem_filter.mp hb).2
  rw [← e, zown_key.mp ha] at h1
  cases h1
theorem zkeys_mem {z : Zs} (w : Zw z) (k : Int) : k ∈ zkeys z ↔ zst z k ≠ (z.common, false) := by
  unfold zkeys
  rw [List.mem_append, List.mem_filter, zown_key]
  unfold zst
  cases h : zown z.own k with
  | none =>
    by_cases g : k ∈ z.gone
    · simp [g]
    · simp [g]
  | some x =>
    have := w.ne _ (zown_mem h)
    simp
    intro e
    exact absurd e this
theorem keys_mem {s : Sz} (W : Wf s) (k : Int) : k ∈ s.odd.map (·.1) ↔ stM s k ≠ (s.common, false) := by
  rw [look_key]
  unfold stM
  cases h : look s.odd k with
  | none => simp
  | some x =>
    have := (W.ok _ (look_mem h)).2.2.2.2
    simp
    intro e
    rw [e] at this
    rcases this with q | q
    · exact q rfl
    · cases q
theorem rel_mk {s : Sz} {z : Zs} (W : Wf s) (w : Zw z) (h1 : s.many = z.many) (h2 : s.common = z.common) (h3 : ∀ k, stM s k = zst z k) : Rel s z := by
  refine ⟨h1, h2, h3, (List.perm_ext_iff_of_nodup W.nd (zkeys_nd w)).mpr fun k => ?_⟩
  rw [keys_mem W, zkeys_mem w, h3 k, h2]
theorem zok_of {s : Sz} {z : Zs} (W : Wf s) (w : Zw z) (R : Rel s z) : Zok z := by
  have l := R.keys.length_eq
  rw [List.length_map] at l
  have le := W.le
  have lk : (zkeys z).length = z.own.length + (z.gone.filter fun k => !(zown z.own k).isSome).length := by
    unfold zkeys
    rw [List.length_append, List.length_map]
  have sub : ∀ k ∈ z.gone, k ∈ zkeys z := fun k hk => by
    rw [zkeys_mem w]
    unfold zst
    simp [hk]
  have lg : z.gone.length ≤ (zkeys z).length := by
    have p : z.gone.Perm ((zkeys z).filter fun k => decide (k ∈ z.gone)) := by
      refine (List.perm_ext_iff_of_nodup w.ng (nodup_filter (zkeys_nd w))).mpr fun k => ?_
      rw [List.mem_filter]
      exact ⟨fun h => ⟨sub k h, decide_eq_true h⟩, fun h => of_decide_eq_true h.2⟩
    rw [p.length_eq]
    exact List.length_filter_le _ _
  refine ⟨by rw [← R.many]; exact W.m0, by rw [← R.many]; exact W.m1, by rw [← R.common]; exact W.c0, by rw [← R.common]; exact W.c1, by omega, by omega, by omega, fun k hk => ?_⟩
  obtain ⟨e, he, ek⟩ := List.mem_map.mp (R.keys.mem_iff.mpr hk)
  have := W.ok e he
  rw [← R.many, ← ek]
  exact ⟨this.1, this.2.1⟩
/-- the dict and its two, with no word of what is in them -/
structure ZH (H : Hp) (a o g : Addr) (z : Zs) : Prop where
  ha : H a = some (.dK (zL z.many z.common o g))
  ho : H o = some (.dK (ownK z.own))
  hg : H g = some (.dK (goneK z.gone))
  ao : a ≠ o
  ag : a ≠ g
  og : o ≠ g
def spZwith : Sp := fun vs H Q _ => ∃ (a o g : Addr) (z : Zs) (k size : Int) (hid : Bool), vs = [.ref a, .int k, .int size, .bl hid] ∧ ZAt H a o g z ∧
  ∀ (a' o' g' : Addr) (H' : Hp), Same H H' → ZH H' a' o' g' (zwithM z k size hid) → H a' = none → H o' = none → H g' = none → Q (.ref a') H'
def spZset : Sp := fun vs H Q _ => ∃ (a o g : Addr) (z : Zs) (k size : Int), vs = [.ref a, .int k, .int size] ∧ ZAt H a o g z ∧
  ∀ (a' o' g' : Addr) (H' : Hp), Same H H' → ZH H' a' o' g' (zwithM z k size (zst z k).2) → H a' = none → H o' = none → H g' = none → Q (.ref a') H'
def spZhide : Sp := fun vs H Q _ => ∃ (a o g : Addr) (z : Zs) (k : Int) (hid : Bool), vs = [.ref a, .int k, .bl hid] ∧ ZAt H a o g z ∧
  ∀ (a' o' g' : Addr) (H' : Hp), Same H H' → ZH H' a' o' g' (zwithM z k (zst z k).1 hid) → H a' = none → H o' = none → H g' = none → Q (.ref a') H'
theorem putK_drop (kvs : List (Key × V)) (k : Key) (v : V) : putK (dropK kvs k) k v = dropK kvs k ++ [(k, v)] := by
  unfold putK
  rw [if_neg]
  intro c
  rw [List.any_eq_true] at c
  obtain ⟨x, hx, e⟩ := c
  have := (List.mem_filter.mp hx).2
  have e' : x.1 = k := of_decide_eq_true e
  exact (of_decide_eq_true this) e'
theorem drop_ownK (own : List (Int × Int)) (k : Int) : dropK (ownK own) (Sum.inl k) = ownK (own.filter fun e => decide (e.1 ≠ k)) := by
  unfold dropK ownK
  rw [List.filter_map]
  congr 1
  refine List.filter_congr fun e _ => ?_
  show decide (Sum.inl e.1 ≠ (Sum.inl k : Key)) = decide (e.1 ≠ k)
  exact decide_eq_decide.mpr (not_congr inl_eq)
theorem drop_goneK (gone : List Int) (k : Int) : dropK (goneK gone) (Sum.inl k) = goneK (gone.filter fun j => decide (j ≠ k)) := by
  unfold dropK goneK
  rw [List.filter_map]
  congr 1
  refine List.filter_congr fun e _ => ?_
  show decide (Sum.inl e ≠ (Sum.inl k : Key)) = decide (e ≠ k)
  exact decide_eq_decide.mpr (not_congr inl_eq)
theorem put_zL_own (n c : Int) (o g o' : Addr) : putK (zL n c o g) (Sum.inr "own") (.ref o') = zL n c o' g := by
  simp [putK, zL, nz1, nz2, nz3, nz4, nz5, nz6, Ne.symm nz6]
theorem put_zL_gone (n c : Int) (o g g' : Addr) : putK (zL n c o g) (Sum.inr "gone") (.ref g') = zL n c o g' := by
  simp [putK, zL, nz1, nz2, nz3, nz4, nz5, nz6]
/-! ### both side by side -/
def Nls (H H' : Hp) : Prop := ∀ b o, (∀ xs, o ≠ .lst xs) → H b = some o → H' b = some o
theorem Nls.of {H H' : Hp} (s : Same H H') : Nls H H' := fun b o _ h => s b o h
theorem Nls.trans {H H1 H2 : Hp} (x : Nls H H1) (y : Nls H1 H2) : Nls H H2 := fun b o n h => y b o n (x b o n h)
theorem Nls.ext {a : Addr} {H H' : Hp} (d : DrawAt H a) (e : Ext a H H') : Nls H H' := fun b o n h => e.2 b o (by
  obtain ⟨l, ns, i, left, seed, m, h1, _⟩ := d
  exact ne_of h h1 (n _)) h
structure Both (C : Addr) (H : Hp) (p d a o g : Addr) (s : Sz) (z : Zs) : Prop where
  S : SzW C H p d s
  Z : ZAt H a o g z
  R : Rel s z
  w : Zw z
  da : d ≠ a
  dO : d ≠ o
  dg : d ≠ g
theorem SzW.wf {C : Addr} {H : Hp} {p d : Addr} {z : Sz} (S : SzW C H p d z) : Wf z := by
  obtain ⟨_, _, _, _, _, W⟩ := S
  exact W
theorem SzW.nls {C : Addr} {H H' : Hp} {p d : Addr} {z : Sz} (S : SzW C H p d z) (e : Nls H H') : SzW C H' p d z := by
  obtain ⟨dx, kvs, h1, h2, h3, W⟩ := S
  exact ⟨dx, kvs, e _ _ (fun _ q => by cases q) h1, e _ _ (fun _ q => by cases q) h2, h3.mono fun t xs q => e _ _ (fun _ q => by cases q) q, W⟩
theorem ZAt.nls {H H' : Hp} {a o g : Addr} {z : Zs} (h : ZAt H a o g z) (e : Nls H H') : ZAt H' a o g z := ⟨e _ _ (fun _ q => by cases q) h.ha, e _ _ (fun _ q => by cases q) h.ho, e _ _ (fun _ q => by cases q) h.hg, h.ao, h.ag, h.og, h.ok⟩
theorem Both.nls {C : Addr} {H H' : Hp} {p d a o g : Addr} {s : Sz} {z : Zs} (B : Both C H p d a o g s z) (e : Nls H H') : Both C H' p d a o g s z := ⟨B.S.nls e, B.Z.nls e, B.R, B.w, B.da, B.dO, B.dg⟩
theorem ZAt.frm {H H' : Hp} {a o g d : Addr} {z : Zs} (h : ZAt H a o g z) (h1 : d ≠ a) (h2 : d ≠ o) (h3 : d ≠ g) (f : Frm d H H') : ZAt H' a o g z := ⟨f _ _ h1.symm h.ha, f _ _ h2.symm h.ho, f _ _ h3.symm h.hg, h.ao, h.ag, h.og, h.ok⟩
/-- a deed in both -/
theorem Both.step {C : Addr} {H' H'' : Hp} {p d a' o' g' : Addr} {s : Sz} {z : Zs} {i own : Int} {hid : Bool} (w : Zw z) (R : Rel s z) (S' : SzW C H' p d (keepM s i own hid)) (e : Same H' H'') (Z' : ZH H'' a' o' g' (zwithM z i own hid)) (na : H' a' = none) (no : H' o' = none) (ng : H' g' = none) :
    Both C H'' p d a' o' g' (keepM s i own hid) (zwithM z i own hid) := by
  have w' := zwith_w w i own hid
  have W' := S'.wf
  have R' : Rel (keepM s i own hid) (zwithM z i own hid) := rel_mk W' w' R.many R.common fun k => by rw [keep_st, zwith_st, R.st k]
  have hd : ∃ u, H' d = some u := by
    obtain ⟨_, kvs, _, h2, _⟩ := S'
    exact ⟨_, h2⟩
  obtain ⟨u, hd⟩ := hd
  exact ⟨S'.same e, ⟨Z'.ha, Z'.ho, Z'.hg, Z'.ao, Z'.ag, Z'.og, zok_of W' w' R'⟩, R', w', ne_of_none hd na, ne_of_none hd no, ne_of_none hd ng⟩
theorem DrawAt.frm {H H' : Hp} {a d : Addr} {kvs : List (Key × V)} (D : DrawAt H a) (hd : H d = some (.dK kvs)) (f : Frm d H H') : DrawAt H' a := by
  obtain ⟨l, ns, i, left, seed, n, h1, h2, r⟩ := D
  exact ⟨l, ns, i, left, seed, n, f _ _ (ne_of h1 hd (by intro e; unfold drawO at e; cases e)) h1, f _ _ (ne_of h2 hd (by intro e; cases e)) h2, r⟩
end Gs

set_option Elab.async false
set_option linter.all false
set_option maxRecDepth 100000
set_option maxHeartbeats 4000000
namespace Gs
open PySem L2
/-! ### sums ahead of a thing -/
theorem sz_plain {z : Sz} {i : Int} (h : ¬ i ∈ z.odd.map (·.1)) : szM z i = z.common := by
  rw [look_key] at h
  have e : look z.odd i = none := by simpa using h
  unfold szM stM
  rw [e]
  rfl
theorem sum_step (f : Int → Int) (i : Int) : ∀ l : List Int, l.Nodup → ((l.filter fun k => decide (k < i + 1)).map f).sum = ((l.filter fun k => decide (k < i)).map f).sum + if i ∈ l then f i else 0
  | [], _ => by simp
  | k :: r, nd => by
    rw [List.nodup_cons] at nd
    have ih := sum_step f i r nd.2
    by_cases h1 : k < i
    · have h2 : k < i + 1 := by omega
      have h3 : ¬ i = k := by omega
      rw [List.filter_cons_of_pos (by simpa using h2), List.filter_cons_of_pos (by simpa using h1), List.map_cons, List.map_cons, List.sum_cons, List.sum_cons, ih]
      simp only [List.mem_cons, h3, false_or]
      omega
    · by_cases h3 : k = i
      · subst h3
        have h2 : k < k + 1 := by omega
        rw [List.filter_cons_of_pos (by simpa using h2), List.filter_cons_of_neg (by simp), List.map_cons, List.sum_cons, ih]
        simp only [nd.1, if_false, List.mem_cons, true_or, if_true]
        omega
      · have h2 : ¬ k < i + 1 := by omega
        have h4 : ¬ i = k := fun z => h3 z.symm
        rw [List.filter_cons_of_neg (by simpa using h2), List.filter_cons_of_neg (by simpa using h1), ih]
        simp only [List.mem_cons, h4, false_or]
theorem ah_succ {z : Sz} (W : Wf z) (i : Int) : ahM z (i + 1) = ahM z i + szM z i := by
  unfold ahM
  rw [sum_step _ i _ W.nd]
  by_cases h : i ∈ z.odd.map (·.1)
  · rw [if_pos h, Int.add_mul]
    omega
  · rw [if_neg h, sz_plain h, Int.add_mul]
    omega
theorem ah_gap {z : Sz} {a b : Int} (h : ∀ k ∈ z.odd.map (·.1), k < a ∨ b ≤ k) (hab : a ≤ b) : ahM z b = ahM z a + (b - a) * z.common := by
  unfold ahM
  have e : ((z.odd.map (·.1)).filter fun k => decide (k < b)) = (z.odd.map (·.1)).filter fun k => decide (k < a) := by
    refine List.filter_congr fun k hk => ?_
    refine decide_eq_decide.mpr ?_
    have := h k hk
    omega
  rw [e, Int.sub_mul]
  omega
theorem ah_zero {z : Sz} (W : Wf z) : ahM z 0 = 0 := by
  unfold ahM
  have e : ((z.odd.map (·.1)).filter fun k => decide (k < 0)) = [] := by
    rw [List.filter_eq_nil_iff]
    intro k hk
    obtain ⟨e, he, ek⟩ := List.mem_map.mp hk
    have := (W.ok e he).1
    simp
    omega
  rw [e]
  simp
theorem sz_range {z : Sz} (W : Wf z) (i : Int) : 0 ≤ szM z i ∧ szM z i ≤ 60 := by
  have := st_range W i
  unfold szM
  split
  · omega
  · omega
theorem ah_nat {z : Sz} (W : Wf z) : ∀ n : Nat, 0 ≤ ahM z (n : Int) ∧ ahM z (n : Int) ≤ 60 * n
  | 0 => by
    have := ah_zero W
    show 0 ≤ ahM z 0 ∧ ahM z 0 ≤ _
    rw [this]
    omega
  | n + 1 => by
    have ih := ah_nat W n
    have s := ah_succ W (n : Int)
    have r := sz_range W (n : Int)
    have e : ((n + 1 : Nat) : Int) = (n : Int) + 1 := by omega
    rw [e, s]
    omega
theorem ah_range {z : Sz} (W : Wf z) {i : Int} (h : 0 ≤ i) : 0 ≤ ahM z i ∧ ahM z i ≤ 60 * i := by
  have := ah_nat W i.toNat
  have e : ((i.toNat : Nat) : Int) = i := by omega
  rw [e] at this
  exact this
theorem ah_mono_nat {z : Sz} (W : Wf z) (a : Int) : ∀ n : Nat, ahM z a ≤ ahM z (a + n)
  | 0 => by
    have e : a + ((0 : Nat) : Int) = a := by omega
    rw [e]
    exact Int.le_refl _
  | n + 1 => by
    have ih := ah_mono_nat W a n
    have s := ah_succ W (a + n)
    have r := sz_range W (a + n)
    have e : a + ((n + 1 : Nat) : Int) = a + n + 1 := by omega
    rw [e, s]
    omega
theorem ah_mono {z : Sz} (W : Wf z) {a b : Int} (h : a ≤ b) : ahM z a ≤ ahM z b := by
  have := ah_mono_nat W a (b - a).toNat
  have e : a + ((b - a).toNat : Int) = b := by omega
  rw [e] at this
  exact this
/-- only one thing lies over a point -/
theorem at_one {z : Sz} (W : Wf z) {i j pt : Int} (h1 : ahM z i ≤ pt) (h2 : pt < ahM z i + szM z i) (h3 : ahM z j ≤ pt) (h4 : pt < ahM z j + szM z j) : i = j := by
  have s1 := ah_succ W i
  have s2 := ah_succ W j
  rcases Int.lt_trichotomy i j with h | h | h
  · have := ah_mono W (show i + 1 ≤ j by omega)
    omega
  · exact h
  · have := ah_mono W (show j + 1 ≤ i by omega)
    omega
def spAt (C cP : Addr) : Sp := fun vs H Q E => ∃ (p d : Addr) (z : Sz) (pt : Int), vs = [.ref p, .int pt] ∧ SzW C H p d z ∧ Sm pt ∧
  (0 ≤ pt → pt < ahM z z.many → ∀ (k : Int) (t : Addr) (H' : Hp), inR z k → ahM z k ≤ pt → pt < ahM z k + szM z k → Same H H' → H' t = some (.tup [.int k, .int (pt - ahM z k)]) → Q (.ref t) H') ∧
  (¬ (0 ≤ pt ∧ pt < ahM z z.many) → ∀ H', Same H H' → E (.ref cP) none H')
theorem lt_of_pw {ys : List Int} (pw : ys.Pairwise (· ≤ ·)) (nd : ys.Nodup) : ys.Pairwise (· < ·) := by
  refine List.Pairwise.imp₂ (fun a b h1 h2 => ?_) pw nd
  omega
theorem drop_at {ys : List Int} {j : Nat} {x : Int} (h : ys[j]? = some x) : ys.drop j = x :: ys.drop (j + 1) := by
  have hj : j < ys.length := by
    rw [List.getElem?_eq_some_iff] at h
    exact h.1
  rw [List.drop_eq_getElem_cons hj]
  rw [List.getElem?_eq_getElem hj] at h
  rw [Option.some.inj h]
end Gs

set_option Elab.async false
set_option linter.all false
set_option maxRecDepth 100000
set_option maxHeartbeats 4000000
namespace Gs
open PySem L2
/-! ### rows of pairs -/
abbrev Pr := Int × Int
def prD (e : Pr) : PyData := .tuple [.int e.1, .int e.2]
def DpP (H : Hp) (xs : List V) (es : List Pr) : Prop := Paired (fun (v : V) (e : Pr) => ∃ t, v = .ref t ∧ H t = some (.tup [.int e.1, .int e.2])) xs es
theorem DpP.mono {H H' : Hp} (s : TupSame H H') : ∀ {xs : List V} {cs : List Pr}, DpP H xs cs → DpP H' xs cs
  | _, _, .nil => .nil
  | _, _, .cons ⟨t, e, h⟩ r => .cons ⟨t, e, s _ _ h⟩ (DpP.mono s r)
theorem DpP.append {H : Hp} : ∀ {xs ys : List V} {cs ds : List Pr}, DpP H xs cs → DpP H ys ds → DpP H (xs ++ ys) (cs ++ ds)
  | _, _, _, _, .nil, s => s
  | _, _, _, _, .cons a r, s => .cons a (DpP.append r s)
theorem DpP.len {H : Hp} : ∀ {xs : List V} {cs : List Pr}, DpP H xs cs → xs.length = cs.length
  | _, _, .nil => rfl
  | _, _, .cons _ r => by simp [DpP.len r]
theorem DpP.dp {K : PySem.W.Frag} {H : Hp} : ∀ {xs : List V} {cs : List Pr}, DpP H xs cs → DpAll K H xs (cs.map prD)
  | _, _, .nil => .nil
  | _, _, .cons ⟨t, e, h⟩ r => by
    subst e
    exact .cons (.tup (SqT.of h) (.cons (.int _) (.cons (.int _) .nil))) (DpP.dp r)
theorem pr_mxl : ∀ es : List Pr, mxlAll (es.map prD) ≤ 3
  | [] => by simp [mxlAll]
  | e :: r => by
    have := pr_mxl r
    simp only [List.map_cons, mxlAll, prD, mxl, List.length_cons, List.length_nil]
    omega
theorem pr_depth : ∀ es : List Pr, PyData.depthAll (es.map prD) ≤ 1
  | [] => by simp [PyData.depthAll]
  | e :: r => by
    have := pr_depth r
    simp only [List.map_cons, PyData.depthAll, prD, PyData.depth]
    omega
/-- all points in their order -/
def dueL (z : Sz) : Nat → List Pr
  | 0 => []
  | m + 1 => dueL z m ++ (List.range (szM z m).toNat).map fun (w : Nat) => ((m : Int), (w : Int))
theorem due_len {z : Sz} (W : Wf z) : ∀ m : Nat, ((dueL z m).length : Int) = ahM z m
  | 0 => by
    show (0 : Int) = ahM z 0
    rw [ah_zero W]
  | m + 1 => by
    have ih := due_len W m
    have s := ah_succ W (m : Int)
    have r := sz_range W (m : Int)
    have e : ((m + 1 : Nat) : Int) = (m : Int) + 1 := by omega
    rw [e, s]
    unfold dueL
    rw [List.length_append, List.length_map, List.length_range]
    omega
theorem due_at {z : Sz} (W : Wf z) {k w : Int} (k0 : 0 ≤ k) (w0 : 0 ≤ w) (w1 : w < szM z k) : ∀ m : Nat, k < m → (dueL z m)[(ahM z k + w).toNat]? = some (k, w)
  | 0, h => by omega
  | m + 1, h => by
    have l := due_len W m
    have a0 := (ah_range W k0).1
    unfold dueL
    by_cases hk : k < m
    · have mo := ah_mono W (show k + 1 ≤ (m : Int) by omega)
      have s := ah_succ W k
      rw [List.getElem?_append_left (by omega)]
      exact due_at W k0 w0 w1 m hk
    · have e : k = (m : Int) := by omega
      rw [List.getElem?_append_right (by rw [← e] at l; omega)]
      have e2 : (ahM z k + w).toNat - (dueL z m).length = w.toNat := by rw [← e] at l; omega
      have hw : w.toNat < (szM z (m : Int)).toNat := by rw [← e]; omega
      rw [e2, List.getElem?_map, List.getElem?_range hw]
      show some ((m : Int), (w.toNat : Int)) = some (k, w)
      rw [e]
      congr 2
      omega
theorem ints2 {a b r : Int} (h0 : 0 ≤ r) (h1 : r < 2) : ∃ n, (n = a ∨ n = b) ∧ atI [V.int a, .int b] r = some (.int n) := by
  have : r = 0 ∨ r = 1 := by omega
  rcases this with rfl | rfl
  · exact ⟨a, .inl rfl, atI_nat (j := 0) rfl⟩
  · exact ⟨b, .inr rfl, atI_nat (j := 1) rfl⟩
theorem rel0 (n c : Int) : Rel ⟨n, c, []⟩ ⟨n, c, [], []⟩ := ⟨rfl, rfl, fun k => rfl, .nil⟩
theorem zw0 (n c : Int) : Zw ⟨n, c, [], []⟩ := ⟨List.nodup_nil, fun e he => (nomatch he), List.nodup_nil⟩
theorem szw_ins {C : Addr} {H : Hp} {p d : Addr} {z : Sz} (S : SzW C H p d z) : ∃ dx, H p = some (.ins C dx (fldZ z.many z.common d)) := by
  obtain ⟨dx, kvs, h1, _⟩ := S
  exact ⟨dx, h1⟩
theorem szw_dict {C : Addr} {H : Hp} {p d : Addr} {z : Sz} (S : SzW C H p d z) : ∃ kvs, H d = some (.dK kvs) := by
  obtain ⟨dx, kvs, h1, h2, _⟩ := S
  exact ⟨kvs, h2⟩
def spLaw (K : PySem.W.Frag) : Sp := fun vs H Q _ => ∃ (a : Addr) (ns : List Int), vs = [.ref a] ∧ SqL K H a (ns.map V.int) ∧ ns.length ≤ 63 ∧ ∀ H', Q (.bl true) H'
end Gs

set_option Elab.async false
set_option linter.all false
set_option maxRecDepth 100000
set_option maxHeartbeats 4000000
namespace K03
open PySem L2 Gs
def top (i : Nat) : Stmt := PySem.Challenge.pw_gridscope_k03_points_in_sizes.main.body.getD i (.Pass ⟨0, 0, 0, 0⟩)
structure Tx (K : PySem.W.Frag) (mg : Str → Option Value) (C cN cP cM cS cF : Addr) (tG tM tO tU tQ : Tok) : Prop where
  no_max : mg "max" = none
  no_min : mg "min" = none
  no_len : mg "len" = none
  no_list : mg "list" = none
  no_isinstance : mg "isinstance" = none
  no_bool : mg "bool" = none
  no_int : mg "int" = none
  no_str : mg "str" = none
  no_tuple : mg "tuple" = none
  no_range : mg "range" = none
  no_all : mg "all" = none
  no_sum : mg "sum" = none
  no_sorted : mg "sorted" = none
  no_any : mg "any" = none
  no_dict : mg "dict" = none
  no_repr : mg "repr" = none
  mg_GREATEST_SIZE : mg "GREATEST_SIZE" = some (.int 60 tG)
  mg_MOST_THINGS : mg "MOST_THINGS" = some (.int 1000000 tM)
  cl : Cls K C
  n_many : NoAttr K C "many"
  n_common : NoAttr K C "common"
  n_odd : NoAttr K C "odd"
  mgC : mg "Sizes" = some (.ref C)
  ins : C8.InsC K C
  x_NoIndex : ExcOk K mg "NoIndex" cN ieL "IndexError.__new__"
  x_BadMany : ExcOk K mg "BadMany" cM veL "ValueError.__new__"
  x_BadSize : ExcOk K mg "BadSize" cS veL "ValueError.__new__"
  x_NoPoint : ExcOk K mg "NoPoint" cP ieL "IndexError.__new__"
  x_Full : ExcOk K mg "Full" cF veL "ValueError.__new__"
  mg_MOST_ODD : mg "MOST_ODD" = some (.int 60 tQ)
section
variable {P : Program} {w : World} {K : PySem.W.Frag} {mg : Str → Option Value} {base : Heap} {f : Addr} {fd : FuncData} {C cN cP cM cS cF : Addr} {tG tM tO tU tQ : Tok}
abbrev s_check_size : Stmt := top 14
theorem sc_check_size : FnScope ["size"] ["size"] (defScope s_check_size) := ⟨rfl, rfl, rfl, by decide +kernel, rfl, by decide +kernel, by decide +kernel⟩
theorem ok_cs (F : Fun K "check_size" "check_size" s_check_size f fd) (T : Tx K mg C cN cP cM cS cF tG tM tO tU tQ)  : FnOk P w K mg base (L2.CX P w) 1 f fd ["size"] (spCS cS) := by
  refine F.okX sc_check_size (fun vs H Q E h => ?_) (fun cdv A outer s H vs Q E hr h => ?_)
  · obtain ⟨i, rfl, _⟩ := h
    rfl
  · obtain ⟨i, rfl, hi, k1, k2⟩ := h
    refine ⟨_, (pss_one (ps_if (PW.pt (pw_or (pt_cmpR op_lt (pv 0) pe_int (nomark _)) (pw_or1 (pt_cmpR op_gt (pv 0) (glI (by rfl) T.mg_GREATEST_SIZE) (nomark _))))) (pss_one (ps_raise rfl (takes_of rfl rfl rfl rfl) (SkE.pmk_own1 PySem.F.excBase_ValueError T.x_BadSize.ex T.x_BadSize.g T.x_BadSize.kp (raises_own T.x_BadSize.b T.x_BadSize.t) (by rfl) (pe_joined (.cons (pe_fmt (pv 0)) (.cons pe_str (.cons (pe_fmt (glI (by rfl) T.mg_GREATEST_SIZE)) .nil))))))) pss_nil)), ?_⟩
    have bad : ¬ (1 ≤ i ∧ i ≤ 60) → tJs [tFmt (tVar 0), tC (.str " is no size from 1 to "), tFmt (tC (.int 60))] Str.empty (start ["size"] [.int i]) H fun _ H1 => E (.ref cS) none H1 := fun no => by
      have l1 := hi.len
      refine ⟨_, rfl, .inr ⟨_, rfl, hi.log, _, rfl, ?_, _, rfl, ?_, .inr ⟨_, rfl, by decide, _, rfl, ?_, k2 no⟩⟩⟩
      · exact small (by rw [PySem.Str.length_append]; show 0 + _ ≤ 1000; omega)
      · exact small (by rw [PySem.Str.length_append, PySem.Str.length_append]; show 0 + _ + 22 ≤ 1000; omega)
      · exact small (by rw [PySem.Str.length_append, PySem.Str.length_append, PySem.Str.length_append]; show 0 + _ + 22 + 2 ≤ 1000; omega)
    refine ⟨_, rfl, _, _, rfl, rfl, _, rfl, ?_⟩
    refine ite2 (fun c => ?_) (fun c => ?_)
    · have c' : i < 1 := of_decide_eq_true c
      exact ifT rfl (bad (by omega))
    · have c' : ¬ i < 1 := fun q => c (decide_eq_true q)
      refine ⟨_, rfl, _, _, rfl, rfl, _, rfl, ?_⟩
      refine ite2 (fun c2 => ?_) (fun c2 => ?_)
      · have c2' : (60 : Int) < i := of_decide_eq_true c2
        exact bad (by omega)
      · have c2' : ¬ (60 : Int) < i := fun q => c2 (decide_eq_true q)
        exact k1 (by omega)
abbrev s_check_number : Stmt := top 15
theorem sc_check_number : FnScope ["number", "count"] ["number", "count"] (defScope s_check_number) := ⟨rfl, rfl, rfl, by decide +kernel, rfl, by decide +kernel, by decide +kernel⟩
theorem ok_cn (F : Fun K "check_number" "check_number" s_check_number f fd) (T : Tx K mg C cN cP cM cS cF tG tM tO tU tQ)  : FnOk P w K mg base (L2.CX P w) 1 f fd ["number", "count"] (spNum cN) := by
  refine F.okX sc_check_number (fun vs H Q E h => ?_) (fun cdv A outer s H vs Q E hr h => ?_)
  · obtain ⟨i, n, rfl, _⟩ := h
    rfl
  · obtain ⟨i, n, rfl, hi, hn, k1, k2⟩ := h
    refine ⟨_, (pss_one (ps_if (PW.pt (pw_or (pt_cmpR op_lt (pv 0) pe_int (nomark _)) (pw_or1 (pt_cmpR op_ge (pv 0) (pv 1) (nomark _))))) (pss_one (ps_raise rfl (takes_of rfl rfl rfl rfl) (SkE.pmk_own1 PySem.F.excBase_IndexError T.x_NoIndex.ex T.x_NoIndex.g T.x_NoIndex.kp (raises_own T.x_NoIndex.b T.x_NoIndex.t) (by rfl) (pe_joined (.cons (pe_fmt (pv 0)) (.cons pe_str (.cons (pe_fmt (pv 1)) .nil))))))) pss_nil)), ?_⟩
    have bad : ¬ (0 ≤ i ∧ i < n) → tJs [tFmt (tVar 0), tC (.str " is no number below "), tFmt (tVar 1)] Str.empty (start ["number", "count"] [.int i, .int n]) H fun _ H1 => E (.ref cN) none H1 := fun no => by
      have l1 := hi.len
      have l2 := hn.len
      refine ⟨_, rfl, .inr ⟨_, rfl, hi.log, _, rfl, ?_, _, rfl, ?_, _, rfl, .inr ⟨_, rfl, hn.log, _, rfl, ?_, k2 no⟩⟩⟩
      · exact small (by rw [PySem.Str.length_append]; show 0 + _ ≤ 1000; omega)
      · exact small (by rw [PySem.Str.length_append, PySem.Str.length_append]; show 0 + _ + 20 ≤ 1000; omega)
      · exact small (by rw [PySem.Str.length_append, PySem.Str.length_append, PySem.Str.length_append]; show 0 + _ + 20 + _ ≤ 1000; omega)
    refine ⟨_, rfl, _, _, rfl, rfl, _, rfl, ?_⟩
    refine ite2 (fun c => ?_) (fun c => ?_)
    · have c' : i < 0 := of_decide_eq_true c
      exact ifT rfl (bad (by omega))
    · have c' : ¬ i < 0 := fun q => c (decide_eq_true q)
      refine ⟨_, rfl, _, rfl, _, _, rfl, rfl, _, rfl, ?_⟩
      refine ite2 (fun c2 => ?_) (fun c2 => ?_)
      · have c2' : n ≤ i := of_decide_eq_true c2
        exact bad (by omega)
      · have c2' : ¬ n ≤ i := fun q => c2 (decide_eq_true q)
        exact k1 (by omega)
abbrev s_Sizes_init : Stmt := inClass (top 16) 0
theorem sc_Sizes_init : FnScope ["self", "many", "common"] ["self", "many", "common"] (defScope s_Sizes_init) := ⟨rfl, rfl, rfl, by decide +kernel, rfl, by decide +kernel, by decide +kernel⟩
theorem ok_init (F : Fun K "__init__" "Sizes.__init__" s_Sizes_init f fd) (T : Tx K mg C cN cP cM cS cF tG tM tO tU tQ) (D_check_size : Dn P w K mg base (L2.CX P w) 1 "check_size" ["size"] (spCS cS)) : FnOk P w K mg base (L2.CX P w) 2 f fd ["self", "many", "common"] (spInit C cM cS) := by
  refine F.okX sc_Sizes_init (fun vs H Q E h => ?_) (fun cdv A outer s H vs Q E hr h => ?_)
  · obtain ⟨p, dx, n, c, rfl, _⟩ := h
    rfl
  · obtain ⟨p, dx, n, c, rfl, hp, hn, hc, k1, k2, k3⟩ := h
    refine ⟨_, (pss_cons (ps_if (PW.pt (pw_or (pt_cmpR op_lt (pv 1) pe_int (nomark _)) (pw_or1 (pt_cmpR op_gt (pv 1) (glI (by rfl) T.mg_MOST_THINGS) (nomark _))))) (pss_one (ps_raise rfl (takes_of rfl rfl rfl rfl) (SkE.pmk_own1 PySem.F.excBase_ValueError T.x_BadMany.ex T.x_BadMany.g T.x_BadMany.kp (raises_own T.x_BadMany.b T.x_BadMany.t) (by rfl) (pe_joined (.cons (pe_fmt (pv 1)) (.cons pe_str (.cons (pe_fmt (glI (by rfl) T.mg_MOST_THINGS)) .nil))))))) pss_nil)
      (pss_cons (ps_expr (pe_callD D_check_size (hr.mono (by omega)) (by rfl) (passes_call (takes_of rfl rfl rfl rfl) (fun _ _ _ _ h => h)) (pa_cons (pv 2) pa_nil)))
      (pss_cons (ps_fld (pv 0) (pv 1) rfl)
      (pss_cons (ps_fld (pv 0) (pv 2) rfl)
      (pss_one (ps_fld (pv 0) pe_dnewK rfl)))))), ?_⟩
    have bad : ¬ (1 ≤ n ∧ n ≤ 1000000) → tJs [tFmt (tVar 1), tC (.str " is no count from 1 to "), tFmt (tC (.int 1000000))] Str.empty (start ["self", "many", "common"] [.ref p, .int n, .int c]) H fun _ H1 => E (.ref cM) none H1 := fun no => by
      have l1 := hn.len
      refine ⟨_, rfl, .inr ⟨_, rfl, hn.log, _, rfl, ?_, _, rfl, ?_, .inr ⟨_, rfl, by decide, _, rfl, ?_, k2 no⟩⟩⟩
      · exact small (by rw [PySem.Str.length_append]; show 0 + _ ≤ 1000; omega)
      · exact small (by rw [PySem.Str.length_append, PySem.Str.length_append]; show 0 + _ + 23 ≤ 1000; omega)
      · exact small (by rw [PySem.Str.length_append, PySem.Str.length_append, PySem.Str.length_append]; show 0 + _ + 23 + 7 ≤ 1000; omega)
    refine ⟨_, rfl, _, _, rfl, rfl, _, rfl, ?_⟩
    refine ite2 (fun c1 => ?_) (fun c1 => ?_)
    · have c' : n < 1 := of_decide_eq_true c1
      exact ifT rfl (bad (by omega))
    · have c' : ¬ n < 1 := fun q => c1 (decide_eq_true q)
      refine ⟨_, rfl, _, _, rfl, rfl, _, rfl, ?_⟩
      refine ite2 (fun c2 => ?_) (fun c2 => ?_)
      · have c2' : (1000000 : Int) < n := of_decide_eq_true c2
        exact bad (by omega)
      · have c2' : ¬ (1000000 : Int) < n := fun q => c2 (decide_eq_true q)
        have yes : 1 ≤ n ∧ n ≤ 1000000 := by omega
        refine ⟨_, rfl, c, rfl, hc, fun yc => ?_, fun no => k3 yes no⟩
        refine ⟨_, rfl, _, rfl, p, C, dx, [], rfl, hp, T.cl, T.n_many, (by show 0 < 1000; decide), ?_⟩
        refine ⟨_, rfl, _, rfl, p, C, dx, _, rfl, upd_same, T.cl, T.n_common, (by show 1 < 1000; decide), fun d hd => ?_⟩
        rw [upd_upd] at hd
        have npd : p ≠ d := by
          intro e
          rw [e, upd_same] at hd
          cases hd
        have hd0 : H d = none := by rw [upd_ne npd.symm] at hd; exact hd
        refine ⟨_, rfl, p, C, dx, _, rfl, (by rw [upd_ne npd, upd_same]), T.cl, T.n_odd, (by show 2 < 1000; decide), ?_⟩
        refine k1 ⟨yes, yc⟩ d _ hd0 ⟨dx, [], upd_same, by rw [upd_ne npd.symm, upd_same], .nil, ⟨yes.1, by show n ≤ 1000000000; omega, yc.1, yc.2, List.nodup_nil, Nat.zero_le _, fun e he => nomatch he⟩⟩ fun b o e hb => ?_
        rw [upd_ne hb, upd_ne (ne_of_none e hd0), upd_ne hb, upd_ne hb]
        exact e
abbrev s_Sizes_state : Stmt := inClass (top 16) 3
theorem sc_Sizes_state : FnScope ["self", "number"] ["self", "number"] (defScope s_Sizes_state) := ⟨rfl, rfl, rfl, by decide +kernel, rfl, by decide +kernel, by decide +kernel⟩
theorem ok_state (F : Fun K "state" "Sizes.state" s_Sizes_state f fd) (T : Tx K mg C cN cP cM cS cF tG tM tO tU tQ) (D_check_number : Dn P w K mg base (L2.CX P w) 1 "check_number" ["number", "count"] (spNum cN)) : FnOk P w K mg base (L2.CX P w) 2 f fd ["self", "number"] (spState C cN) := by
  refine F.okX sc_Sizes_state (fun vs H Q E h => ?_) (fun cdv A outer s H vs Q E hr h => ?_)
  · obtain ⟨p, d, z, i, rfl, _⟩ := h
    rfl
  · obtain ⟨p, d, z, i, rfl, S, hi, k1, k2⟩ := h
    have hu := hu_of hr
    obtain ⟨dx, kvs, h1, h2, h3, W⟩ := S
    have W' := W
    obtain ⟨m0, m1, c0, c1, nd, le, ok⟩ := W'
    refine ⟨_, (pss_cons (ps_expr (pe_callD D_check_number (hr.mono (by omega)) (by rfl) (passes_call (takes_of rfl rfl rfl rfl) (fun _ _ _ _ h => h)) (pa_cons (pv 1) (pa_cons (pe_fld (pv 0) rfl) pa_nil))))
      (pss_one (ps_ret (pe_dget2 hu (pe_fld (pv 0) rfl) (pv 1) (pe_tup (pa_cons (pe_fld (pv 0) rfl) (pa_cons pe_bl pa_nil))) ⟨rfl, rfl, rfl, rfl⟩)))), ?_⟩
    refine ⟨_, rfl, _, rfl, p, C, dx, _, _, rfl, h1, T.cl, T.n_many, fz_many _ _ _, i, z.many, rfl, hi, Sm.of (by omega) (by omega), fun yes => ?_, k2⟩
    refine ⟨_, rfl, p, C, dx, _, _, rfl, h1, T.cl, T.n_odd, fz_odd _ _ _, d, rfl, .inl ⟨kvs, h2⟩, _, rfl, _, rfl, p, C, dx, _, _, rfl, h1, T.cl, T.n_common, fz_common _ _ _, (by show 2 ≤ sizeLine; decide), fun t ht => ?_⟩
    have s1 := same_new ht (.tup [.int z.common, .bl false])
    refine ⟨_, .inl ⟨kvs, Sum.inl i, Same.rd s1 h2, rfl, rfl⟩, ?_⟩
    have key : stM z i = (look z.odd i).getD (z.common, false) := rfl
    rcases h3.look i with ⟨e1, e2⟩ | ⟨u, x, e1, e2, e3⟩
    · rw [e1]
      rw [e2] at key
      exact k1 yes t _ s1 (by rw [key]; exact upd_same)
    · rw [e1]
      rw [e2] at key
      exact k1 yes u _ s1 (by rw [key]; exact s1 _ _ e3)
abbrev s_Sizes_size : Stmt := inClass (top 16) 4
theorem sc_Sizes_size : FnScope ["self", "number", "own", "hidden"] ["self", "number"] (defScope s_Sizes_size) := ⟨rfl, rfl, rfl, by decide +kernel, rfl, by decide +kernel, by decide +kernel⟩
theorem ok_size (F : Fun K "size" "Sizes.size" s_Sizes_size f fd) (T : Tx K mg C cN cP cM cS cF tG tM tO tU tQ) (M_state : Mn P w K mg base (L2.CX P w) 2 C "state" ["self", "number"] (spState C cN)) : FnOk P w K mg base (L2.CX P w) 3 f fd ["self", "number"] (spSize C cN) := by
  refine F.okX sc_Sizes_size (fun vs H Q E h => ?_) (fun cdv A outer s H vs Q E hr h => ?_)
  · obtain ⟨p, d, z, i, rfl, _⟩ := h
    rfl
  · obtain ⟨p, d, z, i, rfl, S, hi, k1, k2⟩ := h
    obtain ⟨dx, kvs, h1, h2, h3, W⟩ := id S
    refine ⟨_, (pss_cons (ps_asg (pe_methD T.cl M_state (hr.mono (by omega)) (passes_call (takes_of rfl rfl rfl rfl) (fun _ _ _ _ h => h)) (pv 0) (pa_cons (pv 1) pa_nil)) (pg_tup (by rfl) (pgs_cons (pg_name (i := 2) sc_Sizes_size.nd rfl (.inl rfl)) (pgs_cons (pg_name (i := 3) sc_Sizes_size.nd rfl (.inl rfl)) pgs_nil))))
      (pss_one (ps_ret (pe_ifExp (pt_val (pv 3)) pe_int (pv 2))))), ?_⟩
    refine ⟨_, rfl, p, dx, _, rfl, h1, fz_no _ _ _, _, rfl, p, d, z, i, rfl, S, hi, fun yes t H1 s1 e1 => ?_, k2⟩
    refine ⟨_, _, rfl, SqT.of e1, rfl, _, _, rfl, _, _, rfl, rfl, ?_⟩
    refine ⟨_, rfl, _, rfl, ?_⟩
    have kk : Q (.int (szM z i)) H1 := k1 yes H1 s1
    unfold szM at kk
    refine ite2 (fun c => ?_) (fun c => ?_)
    · rw [if_pos c] at kk
      exact kk
    · rw [if_neg c] at kk
      exact ⟨_, rfl, kk⟩
abbrev s_Sizes_own : Stmt := inClass (top 16) 5
theorem sc_Sizes_own : FnScope ["self", "number"] ["self", "number"] (defScope s_Sizes_own) := ⟨rfl, rfl, rfl, by decide +kernel, rfl, by decide +kernel, by decide +kernel⟩
theorem ok_own (F : Fun K "own" "Sizes.own" s_Sizes_own f fd) (T : Tx K mg C cN cP cM cS cF tG tM tO tU tQ) (M_state : Mn P w K mg base (L2.CX P w) 2 C "state" ["self", "number"] (spState C cN)) : FnOk P w K mg base (L2.CX P w) 3 f fd ["self", "number"] (spOwn C cN) := by
  refine F.okX sc_Sizes_own (fun vs H Q E h => ?_) (fun cdv A outer s H vs Q E hr h => ?_)
  · obtain ⟨p, d, z, i, rfl, _⟩ := h
    rfl
  · obtain ⟨p, d, z, i, rfl, S, hi, k1, k2⟩ := h
    obtain ⟨dx, kvs, h1, h2, h3, W⟩ := id S
    refine ⟨_, (pss_one (ps_ret (pe_ix ix_tup (pe_methD T.cl M_state (hr.mono (by omega)) (passes_call (takes_of rfl rfl rfl rfl) (fun _ _ _ _ h => h)) (pv 0) (pa_cons (pv 1) pa_nil)) pe_int (fun _ _ => rfl)))), ?_⟩
    refine ⟨_, rfl, p, dx, _, rfl, h1, fz_no _ _ _, _, rfl, p, d, z, i, rfl, S, hi, fun yes t H1 s1 e1 => ?_, k2⟩
    exact ⟨_, _, _, _, rfl, rfl, SqT.of e1, atI_nat (j := 0) rfl, k1 yes H1 s1⟩
abbrev s_Sizes_hidden : Stmt := inClass (top 16) 6
theorem sc_Sizes_hidden : FnScope ["self", "number"] ["self", "number"] (defScope s_Sizes_hidden) := ⟨rfl, rfl, rfl, by decide +kernel, rfl, by decide +kernel, by decide +kernel⟩
theorem ok_hidden (F : Fun K "hidden" "Sizes.hidden" s_Sizes_hidden f fd) (T : Tx K mg C cN cP cM cS cF tG tM tO tU tQ) (M_state : Mn P w K mg base (L2.CX P w) 2 C "state" ["self", "number"] (spState C cN)) : FnOk P w K mg base (L2.CX P w) 3 f fd ["self", "number"] (spHid C cN) := by
  refine F.okX sc_Sizes_hidden (fun vs H Q E h => ?_) (fun cdv A outer s H vs Q E hr h => ?_)
  · obtain ⟨p, d, z, i, rfl, _⟩ := h
    rfl
  · obtain ⟨p, d, z, i, rfl, S, hi, k1, k2⟩ := h
    obtain ⟨dx, kvs, h1, h2, h3, W⟩ := id S
    refine ⟨_, (pss_one (ps_ret (pe_ix ix_tup (pe_methD T.cl M_state (hr.mono (by omega)) (passes_call (takes_of rfl rfl rfl rfl) (fun _ _ _ _ h => h)) (pv 0) (pa_cons (pv 1) pa_nil)) pe_int (fun _ _ => rfl)))), ?_⟩
    refine ⟨_, rfl, p, dx, _, rfl, h1, fz_no _ _ _, _, rfl, p, d, z, i, rfl, S, hi, fun yes t H1 s1 e1 => ?_, k2⟩
    exact ⟨_, _, _, _, rfl, rfl, SqT.of e1, atI_nat (j := 1) rfl, k1 yes H1 s1⟩
abbrev s_Sizes_ahead : Stmt := inClass (top 16) 7
theorem sc_Sizes_ahead : FnScope ["self", "number", "more", "each"] ["self", "number"] (defScope s_Sizes_ahead) := ⟨rfl, rfl, rfl, by decide +kernel, rfl, by decide +kernel, by decide +kernel⟩
theorem ok_ahead (F : Fun K "ahead" "Sizes.ahead" s_Sizes_ahead f fd) (T : Tx K mg C cN cP cM cS cF tG tM tO tU tQ) (D_check_number : Dn P w K mg base (L2.CX P w) 1 "check_number" ["number", "count"] (spNum cN)) (M_size : Mn P w K mg base (L2.CX P w) 3 C "size" ["self", "number"] (spSize C cN)) : FnOk P w K mg base (L2.CX P w) 4 f fd ["self", "number"] (spAhead C cN) := by
  refine F.okX sc_Sizes_ahead (fun vs H Q E h => ?_) (fun cdv A outer s H vs Q E hr h => ?_)
  · obtain ⟨p, d, z, i, rfl, _⟩ := h
    rfl
  · obtain ⟨p, d, z, i, rfl, S, hi, k1, k2⟩ := h
    obtain ⟨dx, kvs, h1, h2, h3, W⟩ := id S
    have W' := W
    obtain ⟨m0, m1, c0, c1, nd, le, ok⟩ := W'
    have npd : p ≠ d := ne_of h1 h2 (by intro e; cases e)
    refine ⟨_, (pss_cons (ps_expr (pe_callD D_check_number (hr.mono (by omega)) (by rfl) (passes_call (takes_of rfl rfl rfl rfl) (fun _ _ _ _ h => h)) (pa_cons (pv 1) (pa_cons (pe_op op_add (pe_fld (pv 0) rfl) pe_int) pa_nil))))
      (pss_cons (ps_set (i := 2) sc_Sizes_ahead.nd rfl (.inl rfl) (pe_callB (cr_sum rfl) (by rfl) T.no_sum (by decide +kernel) (pa_cons (pe_lock (pe_lc (own := [("each", 3)]) (g := gName 3) rfl sc_Sizes_ahead.nd (pi_keys (pe_fld (pv 0) rfl)) (blkOk_by (N := ["self", "number", "more", "each"]) (sc := defScope s_Sizes_ahead) (by decide +kernel)) (fun _ _ _ _ _ => (pg_name (i := 3) sc_Sizes_ahead.nd rfl (Or.inl rfl))) (fun _ _ _ _ _ => (pts_one (pt_cmpR op_lt (pv 3) (pv 1) (nomark _)))) (fun _ _ _ _ _ => (pe_op op_sub (pe_methD T.cl M_size (hr.mono (by omega)) passL (pv 0) (pa_cons (pv 3) pa_nil)) (fldK (K := K) rfl (pv 0) rfl))))) pa_nil)))
      (pss_one (ps_ret (pe_op op_add (pe_op op_mul (pv 1) (pe_fld (pv 0) rfl)) (pv 2)))))), ?_⟩
    refine ⟨_, rfl, _, rfl, p, C, dx, _, _, rfl, h1, T.cl, T.n_many, fz_many _ _ _, _, _, rfl, rfl, i, z.many + 1, rfl, hi, Sm.of (by omega) (by omega), fun yes => ?_, fun no => k2 (fun y => no (by omega))⟩
    refine ⟨d, _, h2, trivial, fun od => ?_⟩
    obtain ⟨HL, eL⟩ : ∃ HL, HL = upd H d (.frz od (.dK kvs)) := ⟨_, rfl⟩
    have hLd : HL d = some (.frz od (.dK kvs)) := by rw [eL]; exact upd_same
    have hLp : HL p = some (.ins C dx (fldZ z.many z.common d)) := by rw [eL, upd_ne npd]; exact h1
    have tsL : TupSame H HL := by rw [eL]; exact TupSame.upd h2 (fun xs e => by cases e) _
    have SL : SzR C HL p d z := ⟨dx, kvs, hLp, .inr ⟨od, hLd⟩, h3.mono tsL, W⟩
    rw [← eL]
    refine ⟨_, rfl, p, C, dx, _, _, rfl, hLp, T.cl, T.n_odd, fz_odd _ _ _, d, od, rfl, .inl ⟨kvs, hLd, fun D hD => ?_⟩⟩
    refine lc_it walk_keys (fun j H2 => Same HL H2 ∧ H2 D = some (.lst (((((z.odd.map (·.1)).take j).filter fun k => decide (k < i)).map fun k => szM z k - z.common).map V.int))) ⟨same_new hD _, upd_same⟩ (fun j H2 _ q => q.1 _ _ hLd) ?_ ?_
    · rintro j x H2 H2' hj ⟨s2, e2⟩ ⟨rfl, kk, vv, ekv, rfl⟩
      obtain ⟨e, ee, eq1⟩ := h3.at_ ekv
      subst eq1
      have hm := ok e (List.mem_of_getElem? ee)
      have ek : (z.odd.map (·.1))[j]? = some e.1 := by rw [List.getElem?_map, ee]; rfl
      refine ⟨rfl, ?_⟩
      refine ⟨_, rfl, _, rfl, _, _, rfl, rfl, _, rfl, ?_⟩
      refine ite2 (fun q => ?_) (fun q => ?_)
      · refine ⟨_, rfl, p, dx, _, rfl, s2 _ _ hLp, fz_no _ _ _, _, rfl, p, d, z, e.1, rfl, SL.same s2, Sm.of (by omega) (by omega), fun _ H3 s3 => ?_, fun no => absurd ⟨hm.1, hm.2.1⟩ no⟩
        refine ⟨_, rfl, p, C, dx, _, _, rfl, s3 _ _ (s2 _ _ hLp), T.cl, T.n_common, fz_common _ _ _, _, _, rfl, rfl, _, s3 _ _ e2, ?_, ?_, ?_⟩
        · refine Nat.lt_of_le_of_lt ?_ (show 60 < sizeLine by decide)
          rw [List.length_map, List.length_map]
          refine Nat.le_trans (List.length_filter_le _ _) (Nat.le_trans (List.length_take_le' _ _) ?_)
          rw [List.length_map]
          exact le
        · intro b' o z'
          rw [upd_ne (ne_of_none z' hD)]
          exact s3 _ _ (s2 _ _ z')
        · rw [upd_same, take_filter1 _ _ ek, if_pos q, List.map_append, List.map_append]
          rfl
      · refine ⟨s2, ?_⟩
        rw [take_filter1 _ _ ek, if_neg q, List.append_nil]
        exact e2
    rintro H2 ⟨s2, e2⟩
    have eLen : kvs.length = (z.odd.map (·.1)).length := by rw [List.length_map]; exact h3.len
    rw [eLen, List.take_length] at e2
    have nDd : D ≠ d := ne_of e2 (s2 _ _ hLd) (by intro e; cases e)
    refine ⟨s2 _ _ hLd, _, _, rfl, SqL.of (by rw [upd_ne nDd]; exact e2), ?_⟩
    have sF : Same H (upd H2 d (.dK kvs)) := by
      intro b o q
      by_cases hb : b = d
      · subst hb
        rw [h2] at q
        cases q
        exact upd_same
      · rw [upd_ne hb]
        refine s2 _ _ ?_
        rw [eL, upd_ne hb]
        exact q
    refine ⟨_, rfl, _, rfl, p, C, dx, _, _, rfl, sF _ _ h1, T.cl, T.n_common, fz_common _ _ _, _, _, rfl, rfl, .inr ⟨by omega, by omega⟩, _, rfl, _, _, rfl, rfl, ?_⟩
    exact k1 (by omega) _ sF
abbrev s_Sizes_total : Stmt := inClass (top 16) 8
theorem sc_Sizes_total : FnScope ["self"] ["self"] (defScope s_Sizes_total) := ⟨rfl, rfl, rfl, by decide +kernel, rfl, by decide +kernel, by decide +kernel⟩
theorem ok_total (F : Fun K "total" "Sizes.total" s_Sizes_total f fd) (T : Tx K mg C cN cP cM cS cF tG tM tO tU tQ) (M_ahead : Mn P w K mg base (L2.CX P w) 4 C "ahead" ["self", "number"] (spAhead C cN)) : FnOk P w K mg base CX0 5 f fd ["self"] (spTotal C) := by
  refine F.ok sc_Sizes_total (fun vs H Q E h => ?_) (fun cdv A outer s H vs Q E hr h => ?_)
  · obtain ⟨p, d, z, rfl, _⟩ := h
    rfl
  · obtain ⟨p, d, z, rfl, S, k1⟩ := h
    obtain ⟨dx, kvs, h1, h2, h3, W⟩ := id S
    obtain ⟨m0, m1, c0, c1, nd, le, ok⟩ := W
    refine ⟨_, (pss_one (ps_ret (pe_methD T.cl M_ahead (hr.mono (by omega)) passL (pv 0) (pa_cons (pe_fld (pv 0) rfl) pa_nil)))), ?_⟩
    exact ⟨_, rfl, p, dx, _, rfl, h1, fz_no _ _ _, _, rfl, p, C, dx, _, _, rfl, h1, T.cl, T.n_many, fz_many _ _ _, p, d, z, _, rfl, S, Sm.of (by omega) (by omega), fun _ H1 s1 => k1 H1 s1, fun no => absurd ⟨by omega, Int.le_refl _⟩ no⟩
-- pick
abbrev s_pick : Stmt := top 19
theorem sc_pick : FnScope ["_law_draw", "_law_many", "_law_cell", "_law_got"] ["_law_draw", "_law_many"] (defScope s_pick) := ⟨rfl, rfl, rfl, by decide +kernel, rfl, by decide +kernel, by decide +kernel⟩
theorem ok_pick (F : Fun K "_law_pick" "_law_pick" s_pick f fd) (T : Tx K mg C cN cP cM cS cF tG tM tO tU tQ) : FnOk P w K mg base CX0 1 f fd ["_law_draw", "_law_many"] spPick := by
  refine F.ok sc_pick (fun vs H Q E h => ?_) (fun cdv A outer s H vs Q E hr h => ?_)
  · obtain ⟨a, many, rfl, _⟩ := h
    rfl
  · obtain ⟨a, many, rfl, D, m1, m2, k⟩ := h
    refine ⟨_, (C8.pss_cut (ps_if (PW.pt (pw_and (pt_cmpR op_lt (pe_ix ix_list (pv 0) pe_int (fun _ _ => rfl)) (pv 1) (nomark _)) (pw_and1 (pt_cmpR op_lt (pe_ix ix_list (pv 0) pe_int (fun _ _ => rfl)) (pe_callB call_len_seq (by rfl) T.no_len (by decide +kernel) (pa_cons (pe_ix ix_list (pv 0) pe_int (fun _ _ => rfl)) pa_nil)) (nomark _))))) (pss_cons (ps_set (i := 2) sc_pick.nd rfl (.inl rfl) (pe_ix ix_list (pe_ix ix_list (pv 0) pe_int (fun _ _ => rfl)) (pe_ix ix_list (pv 0) pe_int (fun _ _ => rfl)) (fun _ _ => rfl)))
        (pss_cons (ps_asg (pe_op op_add (pe_ix ix_list (pv 0) pe_int (fun _ _ => rfl)) pe_int) (pg_sub (pv 0) pe_int set_list))
        (pss_cons (ps_asg pe_int (pg_sub (pv 0) pe_int set_list))
        (pss_one (ps_if (pt_cmpR op_ge (pv 2) (pe_op op_pow pe_int pe_int) (nomark _)) (pss_one (ps_asg (pv 2) (pg_sub (pv 0) pe_int set_list))) (pss_one (ps_asg (pe_op op_mod (pe_op op_add (pe_ix ix_list (pv 0) pe_int (fun _ _ => rfl)) (pv 2)) pe_int) (pg_sub (pv 0) pe_int set_list)))))))) pss_nil)
      (pss_cons (ps_if (pt_cmpR op_ge (pe_ix ix_list (pv 0) pe_int (fun _ _ => rfl)) (pv 1) (nomark _)) (pss_cons (ps_set (i := 3) sc_pick.nd rfl (.inl rfl) (pe_op op_mod (pe_ix ix_list (pv 0) pe_int (fun _ _ => rfl)) (pv 1)))
        (pss_cons (ps_asg (pe_op op_fdiv (pe_ix ix_list (pv 0) pe_int (fun _ _ => rfl)) (pv 1)) (pg_sub (pv 0) pe_int set_list))
        (pss_one (ps_ret (pv 3))))) pss_nil)
      (pss_cons (ps_asg (pe_op op_add (pe_ix ix_list (pv 0) pe_int (fun _ _ => rfl)) pe_int) (pg_sub (pv 0) pe_int set_list))
      (pss_cons (ps_asg (pe_op op_mod (pe_op op_add (pe_op op_add (pe_op op_pow (pe_ix ix_list (pv 0) pe_int (fun _ _ => rfl)) pe_int) (pe_op op_mul pe_int (pe_ix ix_list (pv 0) pe_int (fun _ _ => rfl)))) pe_int) pe_int) (pg_sub (pv 0) pe_int set_list))
      (pss_one (ps_ret (pe_op op_mod (pe_op op_fdiv (pe_ix ix_list (pv 0) pe_int (fun _ _ => rfl)) pe_int) (pv 1)))))))), ?_⟩
    refine ⟨fun σ H1 => (∃ x y, σ = [some (.ref a), some (.int many), x, y]) ∧ DrawAt H1 a ∧ (∀ b, b ≠ a → H1 b = H b), ?_, ?_⟩
    · obtain ⟨l, ns, i, left, seed, n, h1, h2, hi, hs0, hs1⟩ := D
      have hl : l ≠ a := DrawAt.ne h1 h2
      refine ⟨_, rfl, _, _, _, _, rfl, rfl, SqL.of h1, atI_nat (j := 2) rfl, _, rfl, _, _, rfl, rfl, _, rfl, ?_⟩
      refine ite2 (fun c => ?_) (fun c => ?_)
      · refine ⟨_, rfl, _, _, _, _, rfl, rfl, SqL.of h1, atI_nat (j := 1) rfl, _, rfl, _, _, _, _, rfl, rfl, SqL.of h1, atI_nat (j := 0) rfl, _, _, rfl, .inl (SqL.of h2), _, _, rfl, rfl, _, rfl, ?_⟩
        refine ite2 (fun c => ?_) (fun c => ?_)
        · have c' : i < (((ns.map V.int).length : Nat) : Int) := of_decide_eq_true c
          rw [List.length_map] at c'
          have hk : i.toNat < ns.length := by omega
          have ek : i = ((i.toNat : Nat) : Int) := by omega
          have hat : atI (ns.map V.int) i = some (.int ns[i.toNat]) := by
            exact at_of ek (by rw [List.getElem?_map, List.getElem?_eq_getElem hk] <;> rfl)
          have g2 : ∀ o, upd H a o l = some (.lst (ns.map V.int)) := fun o => by rw [upd_ne hl]; exact h2
          refine ⟨_, rfl, _, _, _, _, rfl, rfl, SqL.of h1, atI_nat (j := 0) rfl, _, rfl, _, _, _, _, rfl, rfl, SqL.of h1, atI_nat (j := 1) rfl, _, _, _, _, rfl, rfl, SqL.of h2, hat, ?_⟩
          refine ⟨_, rfl, _, _, _, _, rfl, rfl, SqL.of h1, atI_nat (j := 1) rfl, _, _, rfl, rfl, _, rfl, _, _, _, 1, rfl, rfl, h1, rfl, ?_⟩
          refine ⟨_, rfl, _, _, _, 2, rfl, rfl, upd_same, rfl, ?_⟩
          rw [upd_upd]
          refine ⟨_, rfl, _, _, rfl, rfl, ⟨by decide, by decide, by decide⟩, _, _, rfl, rfl, _, rfl, ?_⟩
          refine ite2 (fun c => ?_) (fun c => ?_)
          · refine ⟨_, rfl, _, rfl, _, _, _, 2, rfl, rfl, upd_same, rfl, ?_⟩
            rw [upd_upd]
            exact ⟨⟨_, _, rfl⟩, ⟨l, ns, i + 1, ns[i.toNat], seed, n, upd_same, g2 _, by omega, hs0, hs1⟩, fun b hb => upd_ne hb⟩
          · refine ⟨_, rfl, _, _, _, _, rfl, rfl, SqL.of upd_same, atI_nat (j := 3) rfl, _, rfl, _, _, rfl, rfl, _, _, rfl, rfl, (by show (0 : Int) < 1000000007; decide), _, rfl, _, _, _, 3, rfl, rfl, upd_same, rfl, ?_⟩
            rw [upd_upd]
            exact ⟨⟨_, _, rfl⟩, ⟨l, ns, i + 1, 0, _, n, upd_same, g2 _, by omega, Int.emod_nonneg _ (by decide), Int.emod_lt_of_pos _ (by decide)⟩, fun b hb => upd_ne hb⟩
        · exact ⟨⟨_, _, rfl⟩, ⟨l, ns, i, left, seed, n, h1, h2, hi, hs0, hs1⟩, fun b hb => rfl⟩
      · exact ⟨⟨_, _, rfl⟩, ⟨l, ns, i, left, seed, n, h1, h2, hi, hs0, hs1⟩, fun b hb => rfl⟩
    · rintro σ H1 ⟨⟨x, y, rfl⟩, D1, fr⟩
      obtain ⟨l, ns, i, left, seed, n, h1, h2, hi, hs0, hs1⟩ := D1
      have hl : l ≠ a := DrawAt.ne h1 h2
      have g2 : ∀ o, upd H1 a o l = some (.lst (ns.map V.int)) := fun o => by rw [upd_ne hl]; exact h2
      have g3 : ∀ o b, b ≠ a → upd H1 a o b = H b := fun o b hb => by rw [upd_ne hb]; exact fr b hb
      refine ⟨_, rfl, _, _, _, _, rfl, rfl, SqL.of h1, atI_nat (j := 2) rfl, _, rfl, _, _, rfl, rfl, _, rfl, ?_⟩
      refine ite2 (fun c => ?_) (fun c => ?_)
      · refine ⟨_, rfl, _, _, _, _, rfl, rfl, SqL.of h1, atI_nat (j := 2) rfl, _, rfl, _, _, rfl, rfl, (show (0 : Int) < many by omega), ?_⟩
        refine ⟨_, rfl, _, _, _, _, rfl, rfl, SqL.of h1, atI_nat (j := 2) rfl, _, rfl, _, _, rfl, rfl, ⟨by omega, by omega⟩, _, rfl, _, _, _, 2, rfl, rfl, h1, rfl, ?_⟩
        refine ⟨_, rfl, ?_⟩
        exact k _ _ (Int.emod_nonneg _ (by omega)) (Int.emod_lt_of_pos _ (by omega)) ⟨l, ns, i, _, seed, n, upd_same, g2 _, hi, hs0, hs1⟩ (g3 _)
      · refine ⟨_, rfl, _, _, _, _, rfl, rfl, SqL.of h1, atI_nat (j := 4) rfl, _, _, rfl, rfl, _, rfl, _, _, _, 4, rfl, rfl, h1, rfl, ?_⟩
        refine ⟨_, rfl, _, _, _, _, rfl, rfl, SqL.of upd_same, atI_nat (j := 3) rfl, _, _, rfl, rfl, ⟨by decide, by decide, by omega⟩, _, rfl, _, _, _, _, rfl, rfl, SqL.of upd_same, atI_nat (j := 4) rfl, _, _, rfl, rfl, .inl ⟨by decide, by decide⟩, _, _, rfl, rfl, _, _, rfl, rfl, _, _, rfl, rfl, (by show (0 : Int) < 1000000007; decide), _, rfl, _, _, _, 3, rfl, rfl, upd_same, rfl, ?_⟩
        rw [upd_upd]
        refine ⟨_, rfl, _, _, _, _, rfl, rfl, SqL.of upd_same, atI_nat (j := 3) rfl, _, _, rfl, rfl, ⟨by decide, by decide⟩, _, rfl, _, _, rfl, rfl, (show (0 : Int) < many by omega), ?_⟩
        exact k _ _ (Int.emod_nonneg _ (by omega)) (Int.emod_lt_of_pos _ (by omega)) ⟨l, ns, i, left, _, _, upd_same, g2 _, hi, Int.emod_nonneg _ (by decide), Int.emod_lt_of_pos _ (by decide)⟩ (g3 _)
-- begin
abbrev s_begin : Stmt := top 18
theorem sc_begin : FnScope ["_law_script"] ["_law_script"] (defScope s_begin) := ⟨rfl, rfl, rfl, by decide +kernel, rfl, by decide +kernel, by decide +kernel⟩
theorem ok_begin (F : Fun K "_law_begin" "_law_begin" s_begin f fd) (T : Tx K mg C cN cP cM cS cF tG tM tO tU tQ) : FnOk P w K mg base CX0 1 f fd ["_law_script"] (spBegin K) := by
  refine F.ok sc_begin (fun vs H Q E h => ?_) (fun cdv A outer s H vs Q E hr h => ?_)
  · obtain ⟨a, ns, rfl, _⟩ := h
    rfl
  · obtain ⟨sc, ns, rfl, hS, k⟩ := h
    refine ⟨_, (pss_one (ps_ret (pe_lst (pa_cons (pe_callTy call_list_of (by rfl) T.no_list (by decide +kernel) (pa_cons (pe_slice sl_list (pv 0) po_none (po_some pe_int)) pa_nil)) (pa_cons pe_int (pa_cons pe_int (pa_cons pe_int (pa_cons pe_int pa_nil)))))))), ?_⟩
    refine ⟨_, rfl, _, rfl, _, _, rfl, hS, fun p hp => ?_⟩
    refine ⟨_, _, rfl, .inl (SqL.of upd_same), fun l hl => ?_⟩
    refine ⟨(by show 5 ≤ sizeLine; decide), fun a ha => ?_⟩
    have s0 := (same_new hp (.lst (cutV (ns.map V.int) none (some 63)))).trans (same_new hl (.lst (cutV (ns.map V.int) none (some 63))))
    obtain ⟨ms, em⟩ := cut_ints ns none (some 63)
    refine k a _ (s0.free ha) ⟨l, ms, 0, 0, 1, 0, upd_same, ?_, by decide, by decide, by decide⟩ (s0.trans (same_new ha _))
    rw [upd_ne (ne_of_none upd_same ha), upd_same, em]
-- same
abbrev s_same : Stmt := top 25
theorem sc_same : FnScope ["_law_found", "_law_due", "_law_k"] ["_law_found", "_law_due"] (defScope s_same) := ⟨rfl, rfl, rfl, by decide +kernel, rfl, by decide +kernel, by decide +kernel⟩
theorem ok_same {n : Nat} (F : Fun K "_law_same" "_law_same" s_same f fd) (T : Tx K mg C cN cP cM cS cF tG tM tO tU tQ) (D_same : Dn P w K mg base CX0 n "_law_same" ["_law_found", "_law_due"] (spSame K n)) : FnOk P w K mg base CX0 (n + 1) f fd ["_law_found", "_law_due"] (spSame K (n + 1)) := by
  refine F.ok sc_same (fun vs H Q E h => ?_) (fun cdv A outer s H vs Q E hr h => ?_)
  · obtain ⟨x, y, d, rfl, _⟩ := h
    rfl
  · obtain ⟨x, y, d, rfl, hx, hy, hd, hm, k⟩ := h
    refine ⟨_, (pss_cons (ps_if (pt_cmpR op_isN (pv 1) pe_non (nomark _)) (pss_one (ps_ret (pe_cmpR op_isN (pv 0) pe_non (nomark _)))) pss_nil)
      (pss_cons (ps_if (PW.pt (pw_or (pt_val (pe_callB call_isi (by rfl) T.no_isinstance (by decide +kernel) (pa_cons (pv 1) (pa_cons (pe_bltn (v := .ty "bool") (by rfl) T.no_bool (by decide +kernel) rfl) pa_nil)))) (pw_or1 (pt_val (pe_callB call_isi (by rfl) T.no_isinstance (by decide +kernel) (pa_cons (pv 0) (pa_cons (pe_bltn (v := .ty "bool") (by rfl) T.no_bool (by decide +kernel) rfl) pa_nil))))))) (pss_one (ps_ret (pe_and (pe_callB call_isi (by rfl) T.no_isinstance (by decide +kernel) (pa_cons (pv 1) (pa_cons (pe_bltn (v := .ty "bool") (by rfl) T.no_bool (by decide +kernel) rfl) pa_nil))) (pe_and (pe_callB call_isi (by rfl) T.no_isinstance (by decide +kernel) (pa_cons (pv 0) (pa_cons (pe_bltn (v := .ty "bool") (by rfl) T.no_bool (by decide +kernel) rfl) pa_nil))) (pe_one (pe_cmpR op_eq (pv 0) (pv 1) (nomark _))))))) pss_nil)
      (pss_cons (ps_if (pt_val (pe_callB call_isiT (by rfl) T.no_isinstance (by decide +kernel) (pa_cons (pv 1) (pa_cons (pe_tup (pa_cons (pe_bltn (v := .ty "int") (by rfl) T.no_int (by decide +kernel) rfl) (pa_cons (pe_bltn (v := .ty "str") (by rfl) T.no_str (by decide +kernel) rfl) pa_nil))) pa_nil)))) (pss_one (ps_ret (pe_and (pe_cmpR op_eq (pe_callB call_isi (by rfl) T.no_isinstance (by decide +kernel) (pa_cons (pv 0) (pa_cons (pe_bltn (v := .ty "int") (by rfl) T.no_int (by decide +kernel) rfl) pa_nil))) (pe_callB call_isi (by rfl) T.no_isinstance (by decide +kernel) (pa_cons (pv 1) (pa_cons (pe_bltn (v := .ty "int") (by rfl) T.no_int (by decide +kernel) rfl) pa_nil))) (nomark _)) (pe_and (pe_callB call_isiT (by rfl) T.no_isinstance (by decide +kernel) (pa_cons (pv 0) (pa_cons (pe_tup (pa_cons (pe_bltn (v := .ty "int") (by rfl) T.no_int (by decide +kernel) rfl) (pa_cons (pe_bltn (v := .ty "str") (by rfl) T.no_str (by decide +kernel) rfl) pa_nil))) pa_nil))) (pe_one (pe_cmpR op_eq (pv 0) (pv 1) (nomark _))))))) pss_nil)
      (pss_cons (ps_if (PW.pt (pw_or (pt_cmpR op_ne (pe_callB call_isi (by rfl) T.no_isinstance (by decide +kernel) (pa_cons (pv 0) (pa_cons (pe_bltn (v := .ty "list") (by rfl) T.no_list (by decide +kernel) rfl) pa_nil))) (pe_callB call_isi (by rfl) T.no_isinstance (by decide +kernel) (pa_cons (pv 1) (pa_cons (pe_bltn (v := .ty "list") (by rfl) T.no_list (by decide +kernel) rfl) pa_nil))) (nomark _)) (pw_or1 (pt_cmpR op_ne (pe_callB call_isi (by rfl) T.no_isinstance (by decide +kernel) (pa_cons (pv 0) (pa_cons (pe_bltn (v := .ty "tuple") (by rfl) T.no_tuple (by decide +kernel) rfl) pa_nil))) (pe_callB call_isi (by rfl) T.no_isinstance (by decide +kernel) (pa_cons (pv 1) (pa_cons (pe_bltn (v := .ty "tuple") (by rfl) T.no_tuple (by decide +kernel) rfl) pa_nil))) (nomark _))))) (pss_one (ps_ret pe_bl)) pss_nil)
      (pss_one (ps_ret (pe_and (pe_cmpR op_eq (pe_callB call_len_seq (by rfl) T.no_len (by decide +kernel) (pa_cons (pv 0) pa_nil)) (pe_callB call_len_seq (by rfl) T.no_len (by decide +kernel) (pa_cons (pv 1) pa_nil)) (nomark _)) (pe_one (pe_callB (cr_all rfl) (by rfl) T.no_all (by decide +kernel) (pa_cons (pe_lc (own := [("_law_k", 2)]) (g := gName 2) rfl sc_same.nd (pi_range1 (by rfl) T.no_range (pa_cons (pe_callB call_len_seq (by rfl) T.no_len (by decide +kernel) (pa_cons (pv 1) pa_nil)) pa_nil)) (blkOk_by (N := ["_law_found", "_law_due", "_law_k"]) (sc := defScope s_same) (by decide +kernel)) (fun _ _ _ _ _ => (pg_name (i := 2) sc_same.nd rfl (Or.inl rfl))) (fun _ _ _ _ _ => pts_nil) (fun _ _ _ _ _ => (pe_callD D_same hr (by rfl) pass0 (pa_cons (pe_ix (ixQk (K := K) rfl) (pv 0) (pv 2) (fun _ _ => rfl)) (pa_cons (pe_ix (ixQk (K := K) rfl) (pv 1) (pv 2) (fun _ _ => rfl)) pa_nil))))) pa_nil)))))))))), ?_⟩
    cases d with
    | dict kvs => cases hx
    | none =>
      cases hx
      cases hy
      exact ⟨_, rfl, rfl, _, rfl, ifT rfl ⟨_, rfl, rfl, k H (Same.refl H)⟩⟩
    | bool b =>
      cases hx
      cases hy
      have ty : ∀ H, TyX K H (.bl b) (.type "bool") := fun H => .base (.bl b)
      have kb : kitB "bool" "bool" = some true := by decide +kernel
      refine ⟨_, rfl, rfl, _, rfl, ?_⟩
      refine ifF (by simp) ?_
      refine ⟨_, rfl, _, _, _, _, true, rfl, .ty _, ty _, kit_ty kb, _, rfl, ?_⟩
      refine ifT rfl ?_
      refine ifT rfl ?_
      refine ⟨_, rfl, _, _, _, _, true, rfl, .ty _, ty _, kit_ty kb, _, rfl, ?_⟩
      refine ifT rfl ?_
      refine ⟨_, rfl, _, _, _, _, true, rfl, .ty _, ty _, kit_ty kb, _, rfl, ?_⟩
      refine ifT rfl ?_
      refine ⟨_, rfl, _, rfl, rfl, ?_⟩
      rw [decide_eq_true rfl]
      exact k H (Same.refl H)
    | int b =>
      cases hx
      cases hy
      have ty : ∀ H, TyX K H (.int b) (.type "int") := fun H => .base (.int b)
      have kb : kitB "int" "bool" = some false := by decide +kernel
      have ki : kitB "int" "int" = some true := by decide +kernel
      have ks : kitB "int" "str" = some false := by decide +kernel
      refine ⟨_, rfl, rfl, _, rfl, ?_⟩
      refine ifF (by simp) ?_
      refine ⟨_, rfl, _, _, _, _, false, rfl, .ty _, ty _, kit_ty kb, _, rfl, ?_⟩
      refine ifF (by simp) ?_
      refine ⟨_, rfl, _, _, _, _, false, rfl, .ty _, ty _, kit_ty kb, _, rfl, ?_⟩
      refine ifF (by simp) ?_
      refine ⟨_, rfl, (by show 2 ≤ sizeLine; decide), fun t1 nt1 => ⟨_, _, _, _, _, _, rfl, upd_same, cls2 _ _, ty _, kit2 ki ks, _, rfl, ?_⟩⟩
      refine ifT rfl ?_
      refine ⟨_, rfl, _, _, _, _, true, rfl, .ty _, ty _, kit_ty ki, _, rfl, _, _, _, _, true, rfl, .ty _, ty _, kit_ty ki, rfl, _, rfl, ?_⟩
      refine ifT rfl ?_
      refine ⟨_, rfl, (by show 2 ≤ sizeLine; decide), fun t2 nt2 => ⟨_, _, _, _, _, _, rfl, upd_same, cls2 _ _, ty _, kit2 ki ks, _, rfl, ?_⟩⟩
      refine ifT rfl ?_
      refine ⟨_, rfl, _, rfl, rfl, ?_⟩
      rw [decide_eq_true rfl]
      exact k _ ((same_new nt1 _).trans (same_new nt2 _))
    | str b =>
      cases hx
      cases hy
      have ty : ∀ H, TyX K H (.str b) (.type "str") := fun H => .base (.str b)
      have kb : kitB "str" "bool" = some false := by decide +kernel
      have ki : kitB "str" "int" = some false := by decide +kernel
      have ks : kitB "str" "str" = some true := by decide +kernel
      refine ⟨_, rfl, rfl, _, rfl, ?_⟩
      refine ifF (by simp) ?_
      refine ⟨_, rfl, _, _, _, _, false, rfl, .ty _, ty _, kit_ty kb, _, rfl, ?_⟩
      refine ifF (by simp) ?_
      refine ⟨_, rfl, _, _, _, _, false, rfl, .ty _, ty _, kit_ty kb, _, rfl, ?_⟩
      refine ifF (by simp) ?_
      refine ⟨_, rfl, (by show 2 ≤ sizeLine; decide), fun t1 nt1 => ⟨_, _, _, _, _, _, rfl, upd_same, cls2 _ _, ty _, kit2 ki ks, _, rfl, ?_⟩⟩
      refine ifT rfl ?_
      refine ⟨_, rfl, _, _, _, _, false, rfl, .ty _, ty _, kit_ty ki, _, rfl, _, _, _, _, false, rfl, .ty _, ty _, kit_ty ki, rfl, _, rfl, ?_⟩
      refine ifT rfl ?_
      refine ⟨_, rfl, (by show 2 ≤ sizeLine; decide), fun t2 nt2 => ⟨_, _, _, _, _, _, rfl, upd_same, cls2 _ _, ty _, kit2 ki ks, _, rfl, ?_⟩⟩
      refine ifT rfl ?_
      refine ⟨_, rfl, _, rfl, rfl, ?_⟩
      rw [decide_eq_true rfl]
      exact k _ ((same_new nt1 _).trans (same_new nt2 _))
    | list ds =>
      have hd' : PyData.depthAll ds < n := by simp only [PyData.depth] at hd; omega
      have kb : kitB "list" "bool" = some false := by decide +kernel
      have ki : kitB "list" "int" = some false := by decide +kernel
      have ks : kitB "list" "str" = some false := by decide +kernel
      have kl : kitB "list" "list" = some true := by decide +kernel
      have kt : kitB "list" "tuple" = some false := by decide +kernel
      cases hx with
      | @lst a xs _ sx ax =>
      cases hy with
      | @lst b ys _ sy ay =>
      have lx := dpAll_len ax
      have ly := dpAll_len ay
      have hm1 : ds.length ≤ 100000 := by simp only [mxl] at hm; omega
      have hm2 : mxlAll ds ≤ 100000 := by simp only [mxl] at hm; omega
      have hsl := sizeLine_eq
      refine ⟨_, rfl, rfl, _, rfl, ?_⟩
      refine ifF (by simp) ?_
      refine ⟨_, rfl, _, _, _, _, false, rfl, .ty _, tyx_list sy, kit_ty kb, _, rfl, ?_⟩
      refine ifF (by simp) ?_
      refine ⟨_, rfl, _, _, _, _, false, rfl, .ty _, tyx_list sx, kit_ty kb, _, rfl, ?_⟩
      refine ifF (by simp) ?_
      refine ⟨_, rfl, (by show 2 ≤ sizeLine; decide), fun t1 nt1 => ⟨_, _, _, _, _, _, rfl, upd_same, cls2 _ _, tyx_list ((same_new nt1 _).seq sy), kit2 ki ks, _, rfl, ?_⟩⟩
      refine ifF (by simp) ?_
      have s1 := same_new nt1 (.tup [.ty "int", .ty "str"])
      have sx1 := s1.seq sx
      have sy1 := s1.seq sy
      refine ⟨_, rfl, _, _, _, _, true, rfl, .ty _, tyx_list sx1, kit_ty kl, _, rfl, _, _, _, _, true, rfl, .ty _, tyx_list sy1, kit_ty kl, rfl, _, rfl, ?_⟩
      refine ifF (by simp) ?_
      refine ⟨_, rfl, _, _, _, _, false, rfl, .ty _, tyx_list sx1, kit_ty kt, _, rfl, _, _, _, _, false, rfl, .ty _, tyx_list sy1, kit_ty kt, rfl, _, rfl, ?_⟩
      refine ifF (by simp) ?_
      refine ⟨_, rfl, _, _, rfl, .inl sx1, _, rfl, _, _, rfl, .inl sy1, rfl, _, rfl, ?_⟩
      refine ifT (by simp [lx, ly]) ?_
      refine ⟨_, rfl, _, _, rfl, .inl sy1, _, rfl, (by omega), (by omega), fun D hD => ?_⟩
      generalize upd H t1 (HO.tup [V.ty "int", V.ty "str"]) = H1 at *
      refine lc_range (lo := 0) (n := ((ys.length : Nat) : Int).toNat) (fun i H2 => Same H1 H2 ∧ H2 D = some (.lst (List.replicate i (V.bl true)))) ⟨same_new hD _, upd_same⟩ ?_ ?_
      · rintro i H2 hi ⟨s2, e2⟩
        have hi' : i < ds.length := by omega
        have ed : ds[i]? = some ds[i] := List.getElem?_eq_getElem hi'
        obtain ⟨v, ev, dv⟩ := dpAll_get ax ed
        obtain ⟨u, eu, du⟩ := dpAll_get ay ed
        have nd : (ds[i]).depth < n := Nat.lt_of_le_of_lt (depth_get ed) hd'
        refine ⟨rfl, ?_⟩
        unfold tYes
        refine ifT rfl ?_
        refine ⟨_, rfl, _, rfl, .inl ⟨_, _, _, _, rfl, rfl, s2.seq sx1, at_of (by simp) ev, _, rfl, _, rfl, .inl ⟨_, _, _, _, rfl, rfl, s2.seq sy1, at_of (by simp) eu, _, _, _, rfl, dp_same (s1.trans s2) _ _ dv, dp_same (s1.trans s2) _ _ du, nd, Nat.le_trans (mxl_get ed) hm2, fun H3 s3 => ?_⟩⟩⟩
        refine ⟨_, s3 _ _ e2, (by rw [List.length_replicate]; omega), ?_, ?_⟩
        · intro b' o q
          rw [upd_ne (ne_of_none q hD)]
          exact s3 _ _ (s2 _ _ q)
        · rw [upd_same, rep_succ]
      · rintro H2 ⟨s2, e2⟩
        refine ⟨_, List.replicate ys.length true, rfl, SqL.of (by rw [e2, ← rep_bl]; simp), ?_⟩
        rw [rep_all]
        exact k _ (s1.trans s2)
    | tuple ds =>
      have hd' : PyData.depthAll ds < n := by simp only [PyData.depth] at hd; omega
      have kb : kitB "tuple" "bool" = some false := by decide +kernel
      have ki : kitB "tuple" "int" = some false := by decide +kernel
      have ks : kitB "tuple" "str" = some false := by decide +kernel
      have kl : kitB "tuple" "list" = some false := by decide +kernel
      have kt : kitB "tuple" "tuple" = some true := by decide +kernel
      cases hx with
      | @tup a xs _ sx ax =>
      cases hy with
      | @tup b ys _ sy ay =>
      have lx := dpAll_len ax
      have ly := dpAll_len ay
      have hm1 : ds.length ≤ 100000 := by simp only [mxl] at hm; omega
      have hm2 : mxlAll ds ≤ 100000 := by simp only [mxl] at hm; omega
      have hsl := sizeLine_eq
      refine ⟨_, rfl, rfl, _, rfl, ?_⟩
      refine ifF (by simp) ?_
      refine ⟨_, rfl, _, _, _, _, false, rfl, .ty _, tyx_tuple sy, kit_ty kb, _, rfl, ?_⟩
      refine ifF (by simp) ?_
      refine ⟨_, rfl, _, _, _, _, false, rfl, .ty _, tyx_tuple sx, kit_ty kb, _, rfl, ?_⟩
      refine ifF (by simp) ?_
      refine ⟨_, rfl, (by show 2 ≤ sizeLine; decide), fun t1 nt1 => ⟨_, _, _, _, _, _, rfl, upd_same, cls2 _ _, tyx_tuple (Same.tup (same_new nt1 _) sy), kit2 ki ks, _, rfl, ?_⟩⟩
      refine ifF (by simp) ?_
      have s1 := same_new nt1 (.tup [.ty "int", .ty "str"])
      have sx1 := Same.tup s1 sx
      have sy1 := Same.tup s1 sy
      refine ⟨_, rfl, _, _, _, _, false, rfl, .ty _, tyx_tuple sx1, kit_ty kl, _, rfl, _, _, _, _, false, rfl, .ty _, tyx_tuple sy1, kit_ty kl, rfl, _, rfl, ?_⟩
      refine ifF (by simp) ?_
      refine ⟨_, rfl, _, _, _, _, true, rfl, .ty _, tyx_tuple sx1, kit_ty kt, _, rfl, _, _, _, _, true, rfl, .ty _, tyx_tuple sy1, kit_ty kt, rfl, _, rfl, ?_⟩
      refine ifF (by simp) ?_
      refine ⟨_, rfl, _, _, rfl, .inr sx1, _, rfl, _, _, rfl, .inr sy1, rfl, _, rfl, ?_⟩
      refine ifT (by simp [lx, ly]) ?_
      refine ⟨_, rfl, _, _, rfl, .inr sy1, _, rfl, (by omega), (by omega), fun D hD => ?_⟩
      generalize upd H t1 (HO.tup [V.ty "int", V.ty "str"]) = H1 at *
      refine lc_range (lo := 0) (n := ((ys.length : Nat) : Int).toNat) (fun i H2 => Same H1 H2 ∧ H2 D = some (.lst (List.replicate i (V.bl true)))) ⟨same_new hD _, upd_same⟩ ?_ ?_
      · rintro i H2 hi ⟨s2, e2⟩
        have hi' : i < ds.length := by omega
        have ed : ds[i]? = some ds[i] := List.getElem?_eq_getElem hi'
        obtain ⟨v, ev, dv⟩ := dpAll_get ax ed
        obtain ⟨u, eu, du⟩ := dpAll_get ay ed
        have nd : (ds[i]).depth < n := Nat.lt_of_le_of_lt (depth_get ed) hd'
        refine ⟨rfl, ?_⟩
        unfold tYes
        refine ifT rfl ?_
        refine ⟨_, rfl, _, rfl, .inr (.inl ⟨_, _, _, _, rfl, rfl, Same.tup s2 sx1, at_of (by simp) ev, _, rfl, _, rfl, .inr (.inl ⟨_, _, _, _, rfl, rfl, Same.tup s2 sy1, at_of (by simp) eu, _, _, _, rfl, dp_same (s1.trans s2) _ _ dv, dp_same (s1.trans s2) _ _ du, nd, Nat.le_trans (mxl_get ed) hm2, fun H3 s3 => ?_⟩)⟩)⟩
        refine ⟨_, s3 _ _ e2, (by rw [List.length_replicate]; omega), ?_, ?_⟩
        · intro b' o q
          rw [upd_ne (ne_of_none q hD)]
          exact s3 _ _ (s2 _ _ q)
        · rw [upd_same, rep_succ]
      · rintro H2 ⟨s2, e2⟩
        refine ⟨_, List.replicate ys.length true, rfl, SqL.of (by rw [e2, ← rep_bl]; simp), ?_⟩
        rw [rep_all]
        exact k _ (s1.trans s2)
theorem same_all (F : Fun K "_law_same" "_law_same" s_same f fd) (T : Tx K mg C cN cP cM cS cF tG tM tO tU tQ) (b : Binds K fd ["_law_found", "_law_due"] []) (m : mg "_law_same" = some (.ref f)) (kp : PySem.W.keepIn K (.ref f) = true) :
    ∀ n : Nat, Dn P w K mg base CX0 n "_law_same" ["_law_found", "_law_due"] (spSame K n)
  | 0 => ⟨f, fd, same_none, m, kp, b⟩
  | n + 1 => ⟨f, fd, ok_same F T (same_all F T b m kp n), m, kp, b⟩
end
end K03

set_option Elab.async false
set_option linter.all false
set_option maxRecDepth 100000
set_option maxHeartbeats 4000000
namespace K03
open PySem L2 Gs
structure Tx3 (K : PySem.W.Frag) (mg : Str → Option Value) (cP cB : Addr) : Prop where
  x_Beyond : ExcOk K mg "Beyond" cB ieL "IndexError.__new__"
  no_IndexError : mg "IndexError" = none
  pb : PySem.W.subIn K (.ref cP) (.ref cB) = some true
  pi : PySem.W.subIn K (.ref cP) (.type "IndexError") = some true
  eP : ExcC K cP
def spTold (C : Addr) : Sp := fun vs H Q _ => ∃ (p d : Addr) (z : Sz) (pt : Int), vs = [.ref p, .int pt] ∧ SzW C H p d z ∧ Sm pt ∧
  (0 ≤ pt → pt < ahM z z.many → ∀ (k : Int) (t : Addr) (H' : Hp), inR z k → ahM z k ≤ pt → pt < ahM z k + szM z k → Same H H' → H' t = some (.tup [.int k, .int (pt - ahM z k)]) → Q (.ref t) H') ∧
  (¬ (0 ≤ pt ∧ pt < ahM z z.many) → ∀ H', Same H H' → Q (.str "no") H')
section
variable {P : Program} {w : World} {K : PySem.W.Frag} {mg : Str → Option Value} {base : Heap} {f : Addr} {fd : FuncData} {C cN cP cM cS cF : Addr} {tG tM tO tU tQ : Tok} {cB : Addr}
abbrev s_Sizes_keep : Stmt := inClass (top 16) 12
theorem sc_Sizes_keep : FnScope ["self", "number", "own", "hidden"] ["self", "number", "own", "hidden"] (defScope s_Sizes_keep) := ⟨rfl, rfl, rfl, by decide +kernel, rfl, by decide +kernel, by decide +kernel⟩
theorem ok_keep (F : Fun K "keep" "Sizes.keep" s_Sizes_keep f fd) (T : Tx K mg C cN cP cM cS cF tG tM tO tU tQ)  : FnOk P w K mg base (L2.CX P w) 1 f fd ["self", "number", "own", "hidden"] (spKeep C cF) := by
  refine F.okX sc_Sizes_keep (fun vs H Q E h => ?_) (fun cdv A outer s H vs Q E hr h => ?_)
  · obtain ⟨p, d, z, i, own, hid, rfl, _⟩ := h
    rfl
  · obtain ⟨p, d, z, i, own, hid, rfl, S, hi, o0, o1, k1, k2⟩ := h
    have hu := hu_of hr
    obtain ⟨dx, kvs, h1, h2, h3, W⟩ := id S
    have npd : p ≠ d := ne_of h1 h2 (by intro e; cases e)
    refine ⟨_, (C8.pss_cut (ps_if (PW.pt (pw_and (pt_cmpR op_eq (pv 2) (pe_fld (pv 0) rfl) (nomark _)) (pw_and1 (pt_not (pt_val (pv 3)))))) (pss_cons (ps_expr (pe_dpop2 (pe_fld (pv 0) rfl) (pv 1) pe_non ⟨rfl, rfl, rfl, rfl⟩))
        (pss_one ps_retN)) pss_nil)
      (C8.pss_cut (ps_if (PW.pt (pw_and (pt_cmp (pc_dnotin hu (pv 1) (pe_fld (pv 0) rfl))) (pw_and1 (pt_cmpR op_ge (pe_callB call_lenD (by rfl) T.no_len (by decide +kernel) (pa_cons (pe_fld (pv 0) rfl) pa_nil)) (glI (by rfl) T.mg_MOST_ODD) (nomark _))))) (pss_one (ps_raise rfl (takes_of rfl rfl rfl rfl) (SkE.pmk_own1 PySem.F.excBase_ValueError T.x_Full.ex T.x_Full.g T.x_Full.kp (raises_own T.x_Full.b T.x_Full.t) (by rfl) (pe_joined (.cons (pe_fmt (glI (by rfl) T.mg_MOST_ODD)) (.cons pe_str .nil)))))) pss_nil)
      (pss_one (ps_dput hu (pe_fld (pv 0) rfl) (pv 1) (pe_tup (pa_cons (pv 2) (pa_cons (pv 3) pa_nil))) rfl)))), ?_⟩
    refine ⟨fun σ H' => σ = start ["self", "number", "own", "hidden"] [.ref p, .int i, .int own, .bl hid] ∧ H = H' ∧ ¬ (own = z.common ∧ hid = false), ?_, ?_⟩
    · refine ⟨_, rfl, _, rfl, p, C, dx, _, _, rfl, h1, T.cl, T.n_common, fz_common _ _ _, rfl, _, rfl, ?_⟩
      refine ite2 (fun c => ?_) (fun c => ?_)
      · have c' : own = z.common := by have := of_decide_eq_true c; injection this
        refine ⟨_, rfl, _, rfl, ?_⟩
        refine ite2 (fun g => ?_) (fun g => ?_)
        · have g' : hid = false := by cases hid <;> simp_all
          have full : ¬ fullM z i own hid := fun q => q.1 ⟨c', g'⟩
          refine ⟨_, rfl, p, C, dx, _, _, rfl, h1, T.cl, T.n_odd, fz_odd _ _ _, d, rfl, .inl ⟨kvs, .inl h2⟩, _, rfl, kvs, Sum.inl i, h2, rfl, pop_both (z := .non) h2 fun v => ?_⟩
          refine k1 full _ (Frm.upd _) ⟨dx, _, (by rw [upd_ne npd]; exact h1), upd_same, ?_, keep_wf W hi o0 o1 full⟩
          have e : (keepM z i own hid).odd = dropO z.odd i := by unfold keepM; simp only [if_pos (show own = z.common ∧ hid = false from ⟨c', g'⟩)]
          rw [e]
          exact (h3.mono (TupSame.upd h2 (fun xs e => by cases e) _)).drop i
        · exact ⟨rfl, rfl, fun q => g (by rw [q.2]; rfl)⟩
      · refine ifF (by simp) ?_
        exact ⟨rfl, rfl, fun q => c (decide_eq_true (congrArg V.int q.1))⟩
    rintro σ H' ⟨rfl, rfl, nc⟩
    refine ⟨fun σ H' => σ = start ["self", "number", "own", "hidden"] [.ref p, .int i, .int own, .bl hid] ∧ H = H' ∧ ¬ fullM z i own hid, ?_, ?_⟩
    · refine ⟨_, rfl, _, rfl, p, C, dx, _, _, rfl, h1, T.cl, T.n_odd, fz_odd _ _ _, d, _, rfl, .inl ⟨kvs, Sum.inl i, .inl h2, rfl, rfl⟩, _, rfl, ?_⟩
      refine ite2 (fun c => ?_) (fun c => ?_)
      · have c' : look z.odd i = none := by
          rcases h3.look i with ⟨e1, e2⟩ | ⟨u, x, e1, e2, e3⟩
          · exact e2
          · rw [e1] at c; cases c
        refine ⟨_, rfl, p, C, dx, _, _, rfl, h1, T.cl, T.n_odd, fz_odd _ _ _, d, kvs, rfl, h2, _, _, rfl, rfl, _, rfl, ?_⟩
        refine ite2 (fun g => ?_) (fun g => ?_)
        · have g' : (60 : Int) ≤ (kvs.length : Int) := of_decide_eq_true g
          rw [h3.len] at g'
          refine .inr ⟨_, rfl, by decide, _, rfl, ?_, _, rfl, ?_, k2 ⟨nc, c', by omega⟩⟩
          · exact small (by decide +kernel)
          · exact small (by decide +kernel)
        · have g' : ¬ (60 : Int) ≤ (kvs.length : Int) := fun q => g (decide_eq_true q)
          rw [h3.len] at g'
          exact ⟨rfl, rfl, fun q => g' (by have := q.2.2; omega)⟩
      · refine ifF (by simp) ?_
        refine ⟨rfl, rfl, fun q => c ?_⟩
        rcases h3.look i with ⟨e1, e2⟩ | ⟨u, x, e1, e2, e3⟩
        · rw [e1]; rfl
        · rw [q.2.1] at e2; cases e2
    rintro σ H' ⟨rfl, rfl, nf⟩
    refine ⟨_, rfl, _, rfl, (by show 2 ≤ sizeLine; decide), fun t ht => ?_⟩
    have s1 := same_new ht (.tup [.int own, .bl hid])
    have h21 := s1 _ _ h2
    have le := W.le
    refine ⟨_, rfl, p, C, dx, _, _, rfl, s1 _ _ h1, T.cl, T.n_odd, fz_odd _ _ _, _, rfl, d, _, rfl, .inl ⟨kvs, Sum.inl i, h21, rfl, Nat.lt_of_le_of_lt (by rw [h3.len]; exact le) (show 60 < sizeLine by decide), rfl⟩, ?_⟩
    have ts : TupSame (upd H t (.tup [.int own, .bl hid])) (upd (upd H t (.tup [.int own, .bl hid])) d (.dK (putK kvs (Sum.inl i) (.ref t)))) := TupSame.upd h21 (fun xs e => by cases e) _
    refine k1 nf _ ((Frm.of s1).trans (Frm.upd _)) ⟨dx, _, (by rw [upd_ne npd]; exact s1 _ _ h1), upd_same, ?_, keep_wf W hi o0 o1 nf⟩
    have e : (keepM z i own hid).odd = putO z.odd i (own, hid) := by unfold keepM; simp only [if_neg nc]
    rw [e]
    exact ((h3.mono (TupSame.of s1)).mono ts).put (ts _ _ upd_same)
abbrev s_Sizes_give : Stmt := inClass (top 16) 13
theorem sc_Sizes_give : FnScope ["self", "number", "size", "hidden"] ["self", "number", "size"] (defScope s_Sizes_give) := ⟨rfl, rfl, rfl, by decide +kernel, rfl, by decide +kernel, by decide +kernel⟩
theorem ok_give (F : Fun K "give" "Sizes.give" s_Sizes_give f fd) (T : Tx K mg C cN cP cM cS cF tG tM tO tU tQ) (D_check_size : Dn P w K mg base (L2.CX P w) 1 "check_size" ["size"] (spCS cS)) (M_own : Mn P w K mg base (L2.CX P w) 3 C "own" ["self", "number"] (spOwn C cN)) (M_hidden : Mn P w K mg base (L2.CX P w) 3 C "hidden" ["self", "number"] (spHid C cN)) (M_keep : Mn P w K mg base (L2.CX P w) 1 C "keep" ["self", "number", "own", "hidden"] (spKeep C cF)) : FnOk P w K mg base (L2.CX P w) 4 f fd ["self", "number", "size"] (spGive C cN cS cF) := by
  refine F.okX sc_Sizes_give (fun vs H Q E h => ?_) (fun cdv A outer s H vs Q E hr h => ?_)
  · obtain ⟨p, d, z, i, size, rfl, _⟩ := h
    rfl
  · obtain ⟨p, d, z, i, size, rfl, S, hi, hs, k1, k2, k3, k4⟩ := h
    obtain ⟨dx, kvs, h1, h2, h3, W⟩ := id S
    refine ⟨_, (pss_cons (ps_set (i := 3) sc_Sizes_give.nd rfl (.inl rfl) (pe_methD T.cl M_hidden (hr.mono (by omega)) (passes_call (takes_of rfl rfl rfl rfl) (fun _ _ _ _ h => h)) (pv 0) (pa_cons (pv 1) pa_nil)))
      (pss_cons (ps_expr (pe_callD D_check_size (hr.mono (by omega)) (by rfl) (passes_call (takes_of rfl rfl rfl rfl) (fun _ _ _ _ h => h)) (pa_cons (pv 2) pa_nil)))
      (pss_one (ps_expr (pe_methD T.cl M_keep (hr.mono (by omega)) (passes_call (takes_of rfl rfl rfl rfl) (fun _ _ _ _ h => h)) (pv 0) (pa_cons (pv 1) (pa_cons (pv 2) (pa_cons (pv 3) pa_nil)))))))), ?_⟩
    refine ⟨_, rfl, p, dx, _, rfl, h1, fz_no _ _ _, _, rfl, p, d, z, i, rfl, S.r, hi, fun yes H1 s1 => ?_, k2⟩
    refine ⟨_, rfl, size, rfl, hs, fun ys => ?_, fun no => k3 yes no H1 s1⟩
    refine ⟨_, rfl, p, dx, _, rfl, s1 _ _ h1, fz_no _ _ _, _, rfl, _, rfl, _, rfl, p, d, z, i, size, _, rfl, S.same s1, yes, ys.1, ys.2, fun nf H' fr S' => ?_, fun fu => k4 yes ys.1 ys.2 fu H1 s1⟩
    exact k1 yes ys.1 ys.2 nf H' ((Frm.of s1).trans fr) S'
abbrev s_Sizes_hide : Stmt := inClass (top 16) 15
theorem sc_Sizes_hide : FnScope ["self", "number"] ["self", "number"] (defScope s_Sizes_hide) := ⟨rfl, rfl, rfl, by decide +kernel, rfl, by decide +kernel, by decide +kernel⟩
theorem ok_hide (F : Fun K "hide" "Sizes.hide" s_Sizes_hide f fd) (T : Tx K mg C cN cP cM cS cF tG tM tO tU tQ) (M_own : Mn P w K mg base (L2.CX P w) 3 C "own" ["self", "number"] (spOwn C cN)) (M_hidden : Mn P w K mg base (L2.CX P w) 3 C "hidden" ["self", "number"] (spHid C cN)) (M_keep : Mn P w K mg base (L2.CX P w) 1 C "keep" ["self", "number", "own", "hidden"] (spKeep C cF)) : FnOk P w K mg base (L2.CX P w) 4 f fd ["self", "number"] (spTo C cN cF gHide) := by
  refine F.okX sc_Sizes_hide (fun vs H Q E h => ?_) (fun cdv A outer s H vs Q E hr h => ?_)
  · obtain ⟨p, d, z, i, rfl, _⟩ := h
    rfl
  · obtain ⟨p, d, z, i, rfl, S, hi, k1, k2, k3⟩ := h
    obtain ⟨dx, kvs, h1, h2, h3, W⟩ := id S
    have rg := st_range W i
    refine ⟨_, (pss_one (ps_expr (pe_methD T.cl M_keep (hr.mono (by omega)) (passes_call (takes_of rfl rfl rfl rfl) (fun _ _ _ _ h => h)) (pv 0) (pa_cons (pv 1) (pa_cons (pe_methD T.cl M_own (hr.mono (by omega)) (passes_call (takes_of rfl rfl rfl rfl) (fun _ _ _ _ h => h)) (pv 0) (pa_cons (pv 1) pa_nil)) (pa_cons pe_bl pa_nil)))))), ?_⟩
    refine ⟨_, rfl, p, dx, _, rfl, h1, fz_no _ _ _, _, rfl, _, rfl, p, dx, _, rfl, h1, fz_no _ _ _, _, rfl, p, d, z, i, rfl, S.r, hi, fun yes H1 s1 => ?_, k2⟩
    refine ⟨p, d, z, i, _, _, rfl, S.same s1, yes, rg.1, rg.2, fun nf H' fr S' => ?_, fun fu => k3 yes fu H1 s1⟩
    exact k1 yes nf H' ((Frm.of s1).trans fr) S'
abbrev s_Sizes_at : Stmt := inClass (top 16) 10
theorem sc_Sizes_at : FnScope ["self", "point", "first", "left", "number", "plain", "counted"] ["self", "point"] (defScope s_Sizes_at) := ⟨rfl, rfl, rfl, by decide +kernel, rfl, by decide +kernel, by decide +kernel⟩
theorem ok_at (F : Fun K "at" "Sizes.at" s_Sizes_at f fd) (T : Tx K mg C cN cP cM cS cF tG tM tO tU tQ) (M_size : Mn P w K mg base (L2.CX P w) 3 C "size" ["self", "number"] (spSize C cN)) (M_total : Mn P w K mg base CX0 5 C "total" ["self"] (spTotal C)) : FnOk P w K mg base (L2.CX P w) 6 f fd ["self", "point"] (spAt C cP) := by
  refine F.okX sc_Sizes_at (fun vs H Q E h => ?_) (fun cdv A outer s H vs Q E hr h => ?_)
  · obtain ⟨p, d, z, pt, rfl, _⟩ := h
    rfl
  · obtain ⟨p, d, z, pt, rfl, S, hp, k1, k2⟩ := h
    obtain ⟨dx, kvs, h1, h2, h3, W⟩ := id S
    have W' := W
    obtain ⟨m0, m1, c0, c1, nd, le, ok⟩ := W'
    have ta := ah_range W (show 0 ≤ z.many by omega)
    have st : Sm (ahM z z.many) := Sm.of (by omega) (by omega)
    refine ⟨_, (C8.pss_cut (ps_if (PW.pt (pw_or (pt_cmpR op_lt (pv 1) pe_int (nomark _)) (pw_or1 (pt_cmpR op_ge (pv 1) (pe_methD0 T.cl M_total (hr.mono (by omega)) pass0 (pv 0)) (nomark _))))) (pss_one (ps_raise rfl (takes_of rfl rfl rfl rfl) (SkE.pmk_own1 PySem.F.excBase_IndexError T.x_NoPoint.ex T.x_NoPoint.g T.x_NoPoint.kp (raises_own T.x_NoPoint.b T.x_NoPoint.t) (by rfl) (pe_joined (.cons (pe_fmt (pv 1)) (.cons pe_str (.cons (pe_fmt (pe_methD0 T.cl M_total (hr.mono (by omega)) pass0 (pv 0))) .nil))))))) pss_nil)
      (pss_cons (ps_set (i := 2) sc_Sizes_at.nd rfl (.inl rfl) pe_int)
      (pss_cons (ps_set (i := 3) sc_Sizes_at.nd rfl (.inl rfl) (pv 1))
      (C8.pss_cut (ps_for (passes_of rfl) rfl (pi_list (pe_callB (call_sortedDI rfl) (by rfl) T.no_sorted (by decide +kernel) (pa_cons (pe_fld (pv 0) rfl) pa_nil))) (pg_name (i := 4) sc_Sizes_at.nd rfl (.inl rfl))
        (pss_cons (ps_set (i := 5) sc_Sizes_at.nd rfl (.inl rfl) (pe_op op_mul (pe_op op_sub (pv 4) (pv 2)) (pe_fld (pv 0) rfl)))
        (pss_cons (ps_if (pt_cmpR op_lt (pv 3) (pv 5) (nomark _)) (pss_one ps_break) pss_nil)
        (pss_cons (ps_aug (i := 3) sc_Sizes_at.nd rfl (.inl rfl) (pv 5) ip_sub)
        (pss_cons (ps_set (i := 6) sc_Sizes_at.nd rfl (.inl rfl) (pe_methD T.cl M_size (hr.mono (by omega)) (passes_call (takes_of rfl rfl rfl rfl) (fun _ _ _ _ h => h)) (pv 0) (pa_cons (pv 4) pa_nil)))
        (pss_cons (ps_if (pt_cmpR op_lt (pv 3) (pv 6) (nomark _)) (pss_one (ps_ret (pe_tup (pa_cons (pv 4) (pa_cons (pv 3) pa_nil))))) pss_nil)
        (pss_cons (ps_aug (i := 3) sc_Sizes_at.nd rfl (.inl rfl) (pv 6) ip_sub)
        (pss_one (ps_set (i := 2) sc_Sizes_at.nd rfl (.inl rfl) (pe_op op_add (pv 4) pe_int))))))))))
      (pss_one (ps_ret (pe_tup (pa_cons (pe_op op_add (pv 2) (pe_op op_fdiv (pv 3) (pe_fld (pv 0) rfl))) (pa_cons (pe_op op_mod (pv 3) (pe_fld (pv 0) rfl)) pa_nil))))))))), ?_⟩
    have bad : ¬ (0 ≤ pt ∧ pt < ahM z z.many) → ∀ H1, Same H H1 → tJs [tFmt (tVar 1), tC (.str " is no point below "), tFmt (tMeth C "total" (spTotal C) [] E0 (tVar 0) tNil)] Str.empty (start ["self", "point", "first", "left", "number", "plain", "counted"] [.ref p, .int pt]) H1 fun _ H2 => E (.ref cP) none H2 := fun no H1 s1 => by
      have l1 := hp.len
      have l2 := st.len
      refine ⟨_, rfl, .inr ⟨_, rfl, hp.log, _, rfl, ?_, _, rfl, ?_, _, rfl, p, dx, _, rfl, s1 _ _ h1, fz_no _ _ _, p, d, z, rfl, S.same s1, fun H2 s2 => .inr ⟨_, rfl, st.log, _, rfl, ?_, k2 no _ (s1.trans s2)⟩⟩⟩
      · exact small (by rw [PySem.Str.length_append]; show 0 + _ ≤ 1000; omega)
      · exact small (by rw [PySem.Str.length_append, PySem.Str.length_append]; show 0 + _ + 19 ≤ 1000; omega)
      · exact small (by rw [PySem.Str.length_append, PySem.Str.length_append, PySem.Str.length_append]; show 0 + _ + 19 + _ ≤ 1000; omega)
    refine ⟨fun σ H' => σ = start ["self", "point", "first", "left", "number", "plain", "counted"] [.ref p, .int pt] ∧ Same H H' ∧ 0 ≤ pt ∧ pt < ahM z z.many, ?_, ?_⟩
    · refine ⟨_, rfl, _, _, rfl, rfl, _, rfl, ?_⟩
      refine ite2 (fun c => ?_) (fun c => ?_)
      · have c' : pt < 0 := of_decide_eq_true c
        exact ifT rfl (bad (by omega) H (Same.refl H))
      · have c' : ¬ pt < 0 := fun q => c (decide_eq_true q)
        refine ⟨_, rfl, _, rfl, p, dx, _, rfl, h1, fz_no _ _ _, p, d, z, rfl, S, fun H1 s1 => ⟨_, _, rfl, rfl, _, rfl, ?_⟩⟩
        refine ite2 (fun c2 => ?_) (fun c2 => ?_)
        · have c2' : ahM z z.many ≤ pt := of_decide_eq_true c2
          exact bad (by omega) H1 s1
        · have c2' : ¬ ahM z z.many ≤ pt := fun q => c2 (decide_eq_true q)
          exact ⟨rfl, s1, by omega, by omega⟩
    rintro σ H1 ⟨rfl, s1, p0, p1⟩
    refine ⟨_, rfl, ?_⟩
    have S1 := S.same s1
    refine ⟨fun σ H' => Same H H' ∧ ∃ first left x4 x5 x6, σ = [some (.ref p), some (.int pt), some (.int first), some (.int left), x4, x5, x6] ∧ 0 ≤ first ∧ 0 ≤ left ∧ left = pt - ahM z first ∧ first + left / z.common < z.many ∧ (∀ k ∈ z.odd.map (·.1), k < first ∨ first + left / z.common < k), ?_, ?_⟩
    · refine ⟨_, rfl, p, C, dx, _, _, rfl, s1 _ _ h1, T.cl, T.n_odd, fz_odd _ _ _, d, kvs, z.odd.map (·.1), rfl, .inl (s1 _ _ h2), h3.keys, (by rw [List.length_map]; omega), fun ys l perm pw hl => ?_⟩
      have s2 := same_new hl (.lst (ys.map V.int))
      have e2 : upd H1 l (.lst (ys.map V.int)) l = some (.lst (ys.map V.int)) := upd_same
      generalize upd H1 l (.lst (ys.map V.int)) = H2 at s2 e2 ⊢
      have slt := lt_of_pw pw (perm.nodup_iff.mpr nd)
      refine ⟨l, rfl, ⟨_, SqL.of e2⟩, ?_⟩
      refine for_list (K := K) (a := l) (xs := ys.map V.int) (fun j σ H' => Same H2 H' ∧ ∃ first left x4 x5 x6, σ = [some (.ref p), some (.int pt), some (.int first), some (.int left), x4, x5, x6] ∧ 0 ≤ first ∧ first ≤ z.many ∧ 0 ≤ left ∧ left = pt - ahM z first ∧ (∀ k ∈ ys.take j, k < first) ∧ (∀ k ∈ ys.drop j, first ≤ k)) ⟨Same.refl _, 0, pt, _, _, _, rfl, Int.le_refl _, by omega, p0, by rw [ah_zero W]; omega, (fun k hk => nomatch hk), fun k hk => ?_⟩ (fun j σ H' _ q => SqL.of (q.1 _ _ e2)) ?_ ?_
      · rw [List.drop_zero] at hk
        obtain ⟨e, he, ek⟩ := List.mem_map.mp (perm.mem_iff.mp hk)
        have := ok e he
        omega
      · rintro j y σ H3 hy ⟨s3, first, left, x4, x5, x6, rfl, f0, f1, l0, el, tk, dk⟩
        rw [List.getElem?_map] at hy
        cases hj : ys[j]? with
        | none => rw [hj] at hy; cases hy
        | some nn =>
          rw [hj] at hy
          have hy' : V.int nn = y := Option.some.inj hy
          subst hy'
          have hin : nn ∈ z.odd.map (·.1) := perm.mem_iff.mp (List.mem_of_getElem? hj)
          obtain ⟨e, he, ek⟩ := List.mem_map.mp hin
          have hm := ok e he
          rw [ek] at hm
          have dj := drop_at hj
          have fn : first ≤ nn := dk nn (by rw [dj]; exact List.mem_cons_self)
          have pj : (nn :: ys.drop (j + 1)).Pairwise (· < ·) := by rw [← dj]; exact slt.drop
          rw [List.pairwise_cons] at pj
          have gap : ∀ k ∈ z.odd.map (·.1), k < first ∨ nn ≤ k := fun k hk => by
            have : k ∈ ys.take j ++ ys.drop j := by rw [List.take_append_drop]; exact perm.mem_iff.mpr hk
            rcases List.mem_append.mp this with q | q
            · exact .inl (tk k q)
            · rw [dj] at q
              rcases List.mem_cons.mp q with q | q
              · exact .inr (by omega)
              · exact .inr (Int.le_of_lt (pj.1 k q))
          have ag := ah_gap gap fn
          have as := ah_succ W nn
          have s13 := s1.trans (s2.trans s3)
          refine ⟨_, rfl, _, rfl, _, _, rfl, rfl, _, rfl, p, C, dx, _, _, rfl, s13 _ _ h1, T.cl, T.n_common, fz_common _ _ _, _, _, rfl, rfl, .inr ⟨by omega, by omega⟩, ?_⟩
          obtain ⟨pl, epl⟩ : ∃ pl : Int, pl = (nn - first) * z.common := ⟨_, rfl⟩
          show gName 5 (V.int ((nn - first) * z.common)) _ _ _
          rw [← epl] at ag ⊢
          refine ⟨_, rfl, _, rfl, _, _, rfl, rfl, _, rfl, ?_⟩
          refine ite2 (fun c => ?_) (fun c => ?_)
          · have c' : left < pl := of_decide_eq_true c
            have dv : left / z.common < nn - first := by
              rw [Int.ediv_lt_iff_lt_mul (by omega), ← epl]
              exact c'
            refine ⟨s13, first, left, _, _, _, rfl, f0, l0, el, by omega, fun k hk => ?_⟩
            have := gap k hk
            omega
          · have c' : ¬ left < pl := fun q => c (decide_eq_true q)
            refine ⟨_, rfl, _, rfl, _, _, rfl, rfl, ?_⟩
            refine ⟨_, rfl, p, dx, _, rfl, s13 _ _ h1, fz_no _ _ _, _, rfl, p, d, z, nn, rfl, (S.same s13).r, Sm.of (by omega) (by omega), fun _ H4 s4 => ?_, fun no => absurd ⟨hm.1, hm.2.1⟩ no⟩
            refine ⟨_, rfl, _, rfl, _, _, rfl, rfl, _, rfl, ?_⟩
            refine ite2 (fun g => ?_) (fun g => ?_)
            · have g' : left - pl < szM z nn := of_decide_eq_true g
              refine ⟨_, rfl, _, rfl, (by show 2 ≤ sizeLine; decide), fun t ht => ?_⟩
              refine k1 p0 p1 nn t _ ⟨hm.1, hm.2.1⟩ (by omega) (by omega) (s13.trans (s4.trans (same_new ht _))) ?_
              rw [upd_same]
              have : pt - ahM z nn = left - pl := by omega
              rw [this]
            · have g' : ¬ left - pl < szM z nn := fun q => g (decide_eq_true q)
              refine ⟨_, rfl, _, rfl, _, _, rfl, rfl, ?_⟩
              refine ⟨_, rfl, _, _, rfl, rfl, ?_⟩
              refine ⟨s3.trans s4, nn + 1, left - pl - szM z nn, _, _, _, rfl, by omega, by omega, by omega, by omega, fun k hk => ?_, fun k hk => ?_⟩
              · rw [List.take_add_one, hj] at hk
                rcases List.mem_append.mp hk with q | q
                · have := tk k q
                  omega
                · simp at q
                  omega
              · have := pj.1 k hk
                omega
      · rintro σ H3 ⟨s3, first, left, x4, x5, x6, rfl, f0, f1, l0, el, tk, dk⟩
        rw [List.length_map, List.take_length] at tk
        have gap : ∀ k ∈ z.odd.map (·.1), k < first ∨ z.many ≤ k := fun k hk => .inl (tk k (perm.mem_iff.mpr hk))
        have ag := ah_gap gap f1
        have dv : left / z.common < z.many - first := by
          rw [Int.ediv_lt_iff_lt_mul (by omega)]
          omega
        refine ⟨s1.trans (s2.trans s3), first, left, _, _, _, rfl, f0, l0, el, by omega, fun k hk => ?_⟩
        have := tk k (perm.mem_iff.mpr hk)
        exact .inl this
    rintro σ H3 ⟨s3, first, left, x4, x5, x6, rfl, f0, l0, el, lm, gap⟩
    have d0 : 0 ≤ left / z.common := Int.ediv_nonneg l0 (by omega)
    have em : left % z.common = left - z.common * (left / z.common) := Int.emod_def _ _
    have m0' := Int.emod_nonneg left (show z.common ≠ 0 by omega)
    have m1' := Int.emod_lt_of_pos left (show 0 < z.common by omega)
    obtain ⟨qq, eq⟩ : ∃ qq : Int, qq = left / z.common := ⟨_, rfl⟩
    rw [← eq] at d0 em lm gap
    have ag := ah_gap (a := first) (b := first + qq) (fun k hk => by have := gap k hk; omega) (by omega)
    have e1 : (first + qq - first) * z.common = z.common * qq := by rw [show first + qq - first = qq by omega, Int.mul_comm]
    rw [e1] at ag
    have pn : szM z (first + qq) = z.common := sz_plain fun hk => by have := gap _ hk; omega
    refine ⟨_, rfl, _, rfl, _, rfl, p, C, dx, _, _, rfl, s3 _ _ h1, T.cl, T.n_common, fz_common _ _ _, _, _, rfl, rfl, ⟨by omega, by omega⟩, _, _, rfl, rfl, _, rfl, _, rfl, p, C, dx, _, _, rfl, s3 _ _ h1, T.cl, T.n_common, fz_common _ _ _, _, _, rfl, rfl, (by show 0 < z.common; omega), (by show 2 ≤ sizeLine; decide), fun t ht => ?_⟩
    refine k1 p0 p1 (first + qq) t _ ⟨by omega, lm⟩ (by omega) (by rw [pn]; omega) (s3.trans (same_new ht _)) ?_
    rw [upd_same]
    have : pt - ahM z (first + qq) = left % z.common := by omega
    rw [this, eq]
abbrev s_z_size : Stmt := top 24
theorem sc_z_size : FnScope ["_law_z_here", "_law_k"] ["_law_z_here", "_law_k"] (defScope s_z_size) := ⟨rfl, rfl, rfl, by decide +kernel, rfl, by decide +kernel, by decide +kernel⟩
theorem ok_z_size (F : Fun K "_law_z_size" "_law_z_size" s_z_size f fd) (T : Tx K mg C cN cP cM cS cF tG tM tO tU tQ)  : FnOk P w K mg base CX0 1 f fd ["_law_z_here", "_law_k"] spZsize := by
  refine F.ok sc_z_size (fun vs H Q E h => ?_) (fun cdv A outer s H vs Q E hr h => ?_)
  · obtain ⟨a, o, g, z, k, rfl, _⟩ := h
    rfl
  · obtain ⟨a, o, g, z, k, rfl, S, q⟩ := h
    have hu := hu_of hr
    refine ⟨_, (pss_cons (ps_if (pt_cmp (pc_din hu (pv 1) (pe_dget hu (pv 0) pe_str (fun _ _ => rfl)))) (pss_one (ps_ret pe_int)) pss_nil)
      (pss_one (ps_ret (pe_dget2 hu (pe_dget hu (pv 0) pe_str (fun _ _ => rfl)) (pv 1) (pe_dget hu (pv 0) pe_str (fun _ _ => rfl)) ⟨rfl, rfl, rfl, rfl⟩)))), ?_⟩
    refine ⟨_, rfl, _, rfl, _, _, rfl, dg_gone S.ha, g, _, rfl, dg_gone1 S.hg k, _, rfl, ?_⟩
    rw [gone_some]
    unfold zsz at q
    refine ite2 (fun c => ?_) (fun c => ?_)
    · rw [if_pos (of_decide_eq_true c)] at q
      exact q
    · rw [if_neg (fun m => c (decide_eq_true m))] at q
      refine ⟨_, rfl, _, _, rfl, dg_own S.ha, o, rfl, .inl ⟨_, .inl S.ho⟩, _, rfl, _, rfl, _, _, rfl, dg_common S.ha, _, dg_own1 S.ho k, ?_⟩
      rw [opt_int]
      exact q
abbrev s_far : Stmt := top 26
theorem sc_far : FnScope ["_law_draw", "_law_number"] ["_law_draw"] (defScope s_far) := ⟨rfl, rfl, rfl, by decide +kernel, rfl, by decide +kernel, by decide +kernel⟩
theorem ok_far (F : Fun K "_law_far" "_law_far" s_far f fd) (T : Tx K mg C cN cP cM cS cF tG tM tO tU tQ) (D_pick : Dn P w K mg base CX0 1 "_law_pick" ["_law_draw", "_law_many"] spPick) : FnOk P w K mg base CX0 2 f fd ["_law_draw"] spFar := by
  refine F.ok sc_far (fun vs H Q E h => ?_) (fun cdv A outer s H vs Q E hr h => ?_)
  · obtain ⟨a, rfl, _⟩ := h
    rfl
  · obtain ⟨a, rfl, D0, k⟩ := h
    refine ⟨_, (pss_cons (ps_set (i := 1) sc_far.nd rfl (.inl rfl) (pe_op op_add (pe_op op_add (pe_op op_mul pe_int (pe_op op_pow pe_int pe_int)) (pe_callD D_pick (hr.mono (by omega)) (by rfl) pass0 (pa_cons (pv 0) (pa_cons (pe_op op_pow pe_int pe_int) pa_nil)))) (pe_op op_mul (pe_op op_pow pe_int pe_int) (pe_callD D_pick (hr.mono (by omega)) (by rfl) pass0 (pa_cons (pv 0) (pa_cons pe_int pa_nil))))))
      (pss_one (ps_ret (pe_ix ix_tup (pe_tup (pa_cons (pv 1) (pa_cons (pe_op op_sub pe_int (pv 1)) pa_nil))) (pe_callD D_pick (hr.mono (by omega)) (by rfl) pass0 (pa_cons (pv 0) (pa_cons pe_int pa_nil))) (fun _ _ => rfl))))), ?_⟩
    refine ⟨_, _, rfl, rfl, ⟨by decide, by decide, by decide⟩, _, _, rfl, rfl, .inl ⟨by decide, by decide⟩, _, rfl, _, _, rfl, rfl, ⟨by decide, by decide, by decide⟩, _, _, rfl, D0, by decide, by decide, fun r1 H1 a1 b1 D1 q1 => ?_⟩
    refine ⟨_, _, rfl, rfl, _, _, rfl, rfl, ⟨by decide, by decide, by decide⟩, _, rfl, _, _, rfl, D1, by decide, by decide, fun r2 H2 a2 b2 D2 q2 => ?_⟩
    refine ⟨_, _, rfl, rfl, .inr ⟨by omega, by omega⟩, _, _, rfl, rfl, ?_⟩
    have b1' : r1 < 1000000000 := b1
    obtain ⟨n, en⟩ : ∃ n : Int, n = 2 * 10 ^ Int.toNat 6 + r1 + 10 ^ Int.toNat 29 * r2 := ⟨_, rfl⟩
    have n0 : 1000000 < n := by
      rw [en, show (10 : Int) ^ Int.toNat 6 = 1000000 from by decide, show (10 : Int) ^ Int.toNat 29 = 100000000000000000000000000000 from by decide]
      omega
    have n1 : n ≤ 10 ^ 40 := by
      rw [en, show (10 : Int) ^ Int.toNat 6 = 1000000 from by decide, show (10 : Int) ^ Int.toNat 29 = 100000000000000000000000000000 from by decide]
      omega
    show gName 1 (V.int (2 * 10 ^ Int.toNat 6 + r1 + 10 ^ Int.toNat 29 * r2)) _ _ _
    rw [← en]
    refine ⟨_, rfl, _, rfl, _, _, rfl, rfl, (by show 2 ≤ sizeLine; decide), fun t ht => ?_⟩
    have s3 := same_new ht (.tup [.int n, .int (0 - n)])
    refine ⟨_, rfl, _, _, rfl, D2.same s3, by decide, by decide, fun r3 H3 a3 b3 D3 q3 => ?_⟩
    have x3 : Gs.Ext a H H3 := ((Ext.pick D1 q1).trans ((Ext.pick D2 q2).same s3)).trans (Ext.pick D3 q3)
    have ht3 : H3 t = some (.tup [.int n, .int (0 - n)]) := (Ext.pick D3 q3).tup (D2.same s3) upd_same
    have : r3 = 0 ∨ r3 = 1 := by omega
    rcases this with rfl | rfl
    · exact ⟨t, _, _, _, rfl, rfl, SqT.of ht3, atI_nat (j := 0) rfl, k n H3 (Sm.of (by omega) n1) (.inr n0) x3⟩
    · exact ⟨t, _, _, _, rfl, rfl, SqT.of ht3, atI_nat (j := 1) rfl, k (0 - n) H3 (Sm.of (by omega) (by omega)) (.inl (by omega)) x3⟩
abbrev s_z : Stmt := top 20
theorem sc_z : FnScope ["_law_many", "_law_usual"] ["_law_many", "_law_usual"] (defScope s_z) := ⟨rfl, rfl, rfl, by decide +kernel, rfl, by decide +kernel, by decide +kernel⟩
theorem ok_z (F : Fun K "_law_z" "_law_z" s_z f fd) (T : Tx K mg C cN cP cM cS cF tG tM tO tU tQ)  : FnOk P w K mg base CX0 1 f fd ["_law_many", "_law_usual"] spZnew := by
  refine F.ok sc_z (fun vs H Q E h => ?_) (fun cdv A outer s H vs Q E hr h => ?_)
  · obtain ⟨n, c, rfl, _⟩ := h
    rfl
  · obtain ⟨n, c, rfl, hn, hc, k⟩ := h
    refine ⟨_, (pss_one (ps_ret (pe_disp (pps_cons pe_str (pv 0) (pps_cons pe_str (pv 1) (pps_cons pe_str pe_dnewK (pps_cons pe_str pe_dnewK pps_nil)))) (by rfl) (by rfl) (fun z => by cases z) (by decide)))), ?_⟩
    refine fun a na => ⟨_, rfl, _, rfl, fun o no => fun g ng => ?_⟩
    have s1 := same_new na (.dK [])
    have s2 := same_new no (.dK [])
    have s3 := same_new ng (.dK [])
    have ha : upd (upd (upd H a (.dK [])) o (.dK [])) g (.dK []) a = some (.dK []) := s3 _ _ (s2 _ _ upd_same)
    have ao : a ≠ o := ne_of_none upd_same no
    have og : o ≠ g := ne_of_none upd_same ng
    have ag : a ≠ g := ne_of_none (s2 _ _ upd_same) ng
    refine ⟨ha, zL n c o g, rfl, (by show 4 ≤ 15; decide), ?_⟩
    rw [merge_zL]
    have so : Same H (upd (upd (upd (upd H a (.dK [])) o (.dK [])) g (.dK [])) a (.dK (zL n c o g))) := fun b v q => by
      rw [upd_ne (ne_of_none q na)]
      exact s3 _ _ (s2 _ _ (s1 _ _ q))
    refine k a o g _ so ⟨upd_same, ?_, ?_, ao, ag, og, ⟨hn.1, hn.2, hc.1, hc.2, by show 0 < 64; decide, by show 0 ≤ 1000; decide, by show 0 ≤ 1000; decide, fun k hk => nomatch hk⟩⟩ na (s1.free no) (s1.free (s2.free ng))
    · rw [upd_ne ao.symm]
      exact s3 _ _ upd_same
    · rw [upd_ne ag.symm]
      exact upd_same
abbrev s_z_with : Stmt := top 21
theorem sc_z_with : FnScope ["_law_z_here", "_law_k", "_law_size", "_law_hidden", "_law_made"] ["_law_z_here", "_law_k", "_law_size", "_law_hidden"] (defScope s_z_with) := ⟨rfl, rfl, rfl, by decide +kernel, rfl, by decide +kernel, by decide +kernel⟩
theorem ok_z_with (F : Fun K "_law_z_with" "_law_z_with" s_z_with f fd) (T : Tx K mg C cN cP cM cS cF tG tM tO tU tQ)  : FnOk P w K mg base CX0 1 f fd ["_law_z_here", "_law_k", "_law_size", "_law_hidden"] spZwith := by
  refine F.ok sc_z_with (fun vs H Q E h => ?_) (fun cdv A outer s H vs Q E hr h => ?_)
  · obtain ⟨a, o, g, z, k, size, hid, rfl, _⟩ := h
    rfl
  · obtain ⟨a, o, g, z, k, size, hid, rfl, S, q⟩ := h
    have hu := hu_of hr
    refine ⟨_, (pss_cons (ps_set (i := 4) sc_z_with.nd rfl (.inl rfl) (pe_callTy call_dictD (by rfl) T.no_dict (by decide +kernel) (pa_cons (pv 0) pa_nil)))
      (pss_cons (ps_dput hu (pv 4) pe_str (pe_callTy call_dictD (by rfl) T.no_dict (by decide +kernel) (pa_cons (pe_dget hu (pv 0) pe_str (fun _ _ => rfl)) pa_nil)) rfl)
      (pss_cons (ps_dput hu (pv 4) pe_str (pe_callTy call_dictD (by rfl) T.no_dict (by decide +kernel) (pa_cons (pe_dget hu (pv 0) pe_str (fun _ _ => rfl)) pa_nil)) rfl)
      (pss_cons (ps_expr (pe_dpop2 (pe_dget hu (pv 4) pe_str (fun _ _ => rfl)) (pv 1) pe_non ⟨rfl, rfl, rfl, rfl⟩))
      (pss_cons (ps_expr (pe_dpop2 (pe_dget hu (pv 4) pe_str (fun _ _ => rfl)) (pv 1) pe_non ⟨rfl, rfl, rfl, rfl⟩))
      (C8.pss_cut (ps_if (pt_cmpR op_ne (pv 2) (pe_dget hu (pv 0) pe_str (fun _ _ => rfl)) (nomark _)) (pss_one (ps_dput hu (pe_dget hu (pv 4) pe_str (fun _ _ => rfl)) (pv 1) (pv 2) rfl)) pss_nil)
      (C8.pss_cut (ps_if (pt_val (pv 3)) (pss_one (ps_dput hu (pe_dget hu (pv 4) pe_str (fun _ _ => rfl)) (pv 1) pe_bl rfl)) pss_nil)
      (pss_one (ps_ret (pv 4)))))))))), ?_⟩
    refine ⟨_, rfl, a, _, rfl, .inl S.ha, fun a1 na1 => ?_⟩
    have s1 := same_new na1 (.dK (zL z.many z.common o g))
    have e1 : upd H a1 (.dK (zL z.many z.common o g)) a1 = some (.dK (zL z.many z.common o g)) := upd_same
    generalize upd H a1 (.dK (zL z.many z.common o g)) = H1 at s1 e1 ⊢
    have S1 := S.same s1
    refine ⟨_, rfl, _, _, rfl, dg_own S1.ha, o, _, rfl, .inl S1.ho, fun o1 no1 => ?_⟩
    have s2 := same_new no1 (.dK (ownK z.own))
    have e2 : upd H1 o1 (.dK (ownK z.own)) o1 = some (.dK (ownK z.own)) := upd_same
    generalize upd H1 o1 (.dK (ownK z.own)) = H2 at s2 e2 ⊢
    have a1o1 : a1 ≠ o1 := ne_of_none e1 no1
    refine ⟨_, rfl, a1, _, rfl, .inl ⟨_, Sum.inr "own", s2 _ _ e1, rfl, by show 4 < sizeLine; decide, rfl⟩, ?_⟩
    rw [put_zL_own]
    have sA : Same H (upd H2 a1 (.dK (zL z.many z.common o1 g))) := sameU (s1.trans s2) na1 _
    have eA1 : upd H2 a1 (.dK (zL z.many z.common o1 g)) a1 = some (.dK (zL z.many z.common o1 g)) := upd_same
    have eA2 : upd H2 a1 (.dK (zL z.many z.common o1 g)) o1 = some (.dK (ownK z.own)) := by rw [upd_ne a1o1.symm]; exact e2
    have no1' : H o1 = none := s1.free no1
    generalize upd H2 a1 (.dK (zL z.many z.common o1 g)) = HA at sA eA1 eA2 ⊢
    have SA := S.same sA
    refine ⟨_, rfl, _, _, rfl, dg_gone SA.ha, g, _, rfl, .inl SA.hg, fun g1 ng1 => ?_⟩
    have ng1' : H g1 = none := sA.free ng1
    have a1g1 : a1 ≠ g1 := ne_of_none eA1 ng1
    have o1g1 : o1 ≠ g1 := ne_of_none eA2 ng1
    have s3 := same_new ng1 (.dK (goneK z.gone))
    have e3 : upd HA g1 (.dK (goneK z.gone)) g1 = some (.dK (goneK z.gone)) := upd_same
    generalize upd HA g1 (.dK (goneK z.gone)) = H3 at s3 e3 ⊢
    refine ⟨_, rfl, a1, _, rfl, .inl ⟨_, Sum.inr "gone", s3 _ _ eA1, rfl, by show 4 < sizeLine; decide, rfl⟩, ?_⟩
    rw [put_zL_gone]
    have sB : Same H (upd H3 a1 (.dK (zL z.many z.common o1 g1))) := sameU (sA.trans s3) na1 _
    have eB1 : upd H3 a1 (.dK (zL z.many z.common o1 g1)) a1 = some (.dK (zL z.many z.common o1 g1)) := upd_same
    have eB2 : upd H3 a1 (.dK (zL z.many z.common o1 g1)) o1 = some (.dK (ownK z.own)) := by rw [upd_ne a1o1.symm]; exact s3 _ _ eA2
    have eB3 : upd H3 a1 (.dK (zL z.many z.common o1 g1)) g1 = some (.dK (goneK z.gone)) := by rw [upd_ne a1g1.symm]; exact e3
    generalize upd H3 a1 (.dK (zL z.many z.common o1 g1)) = HB at sB eB1 eB2 eB3 ⊢
    refine ⟨_, rfl, _, _, rfl, dg_own eB1, o1, rfl, .inl ⟨_, .inl eB2⟩, _, rfl, _, Sum.inl k, eB2, rfl, pop_both (z := .non) eB2 fun v => ?_⟩
    rw [drop_ownK]
    obtain ⟨own', eo⟩ : ∃ own', own' = z.own.filter fun e => decide (e.1 ≠ k) := ⟨_, rfl⟩
    rw [← eo]
    have sC := sameU sB no1' (.dK (ownK own'))
    have eC1 : upd HB o1 (.dK (ownK own')) a1 = _ := (upd_ne a1o1).trans eB1
    have eC2 : upd HB o1 (.dK (ownK own')) o1 = some (.dK (ownK own')) := upd_same
    have eC3 : upd HB o1 (.dK (ownK own')) g1 = _ := (upd_ne o1g1.symm).trans eB3
    generalize upd HB o1 (.dK (ownK own')) = HC at sC eC1 eC2 eC3 ⊢
    refine ⟨_, rfl, _, _, rfl, dg_gone eC1, g1, rfl, .inl ⟨_, .inl eC3⟩, _, rfl, _, Sum.inl k, eC3, rfl, pop_both (z := .non) eC3 fun v => ?_⟩
    rw [drop_goneK]
    obtain ⟨gone', eg⟩ : ∃ gone', gone' = z.gone.filter fun j => decide (j ≠ k) := ⟨_, rfl⟩
    rw [← eg]
    have sD := sameU sC ng1' (.dK (goneK gone'))
    have eD1 : upd HC g1 (.dK (goneK gone')) a1 = _ := (upd_ne a1g1).trans eC1
    have eD2 : upd HC g1 (.dK (goneK gone')) o1 = _ := (upd_ne o1g1).trans eC2
    have eD3 : upd HC g1 (.dK (goneK gone')) g1 = some (.dK (goneK gone')) := upd_same
    generalize upd HC g1 (.dK (goneK gone')) = HD at sD eD1 eD2 eD3 ⊢
    have SD := S.same sD
    have l1 : own'.length ≤ 1000 := by rw [eo]; exact Nat.le_trans (List.length_filter_le _ _) S.ok.l1
    have l2 : gone'.length ≤ 1000 := by rw [eg]; exact Nat.le_trans (List.length_filter_le _ _) S.ok.l2
    refine ⟨fun σ H' => σ = List.set (start ["_law_z_here", "_law_k", "_law_size", "_law_hidden", "_law_made"] [.ref a, .int k, .int size, .bl hid]) 4 (some (.ref a1)) ∧ Same H H' ∧ H' a1 = some (.dK (zL z.many z.common o1 g1)) ∧ H' o1 = some (.dK (ownK (own' ++ (if size ≠ z.common then [(k, size)] else [])))) ∧ H' g1 = some (.dK (goneK gone')), ?_, ?_⟩
    · refine ⟨_, rfl, _, rfl, _, _, rfl, dg_common SD.ha, rfl, _, rfl, ?_⟩
      refine ite2 (fun c => ?_) (fun c => ?_)
      · have c' : size ≠ z.common := by
          intro e
          rw [e] at c
          simp at c
        rw [if_pos c']
        refine ⟨_, rfl, _, rfl, _, _, rfl, dg_own eD1, _, rfl, o1, _, rfl, .inl ⟨_, Sum.inl k, eD2, rfl, ?_, rfl⟩, rfl, ?_⟩
        · unfold ownK
          rw [List.length_map]
          exact Nat.lt_of_le_of_lt l1 (show 1000 < sizeLine by decide)
        rw [eo, ← drop_ownK, putK_drop, drop_ownK, ← eo]
        refine ⟨sameU sD no1' _, (upd_ne a1o1).trans eD1, ?_, (upd_ne o1g1.symm).trans eD3⟩
        rw [upd_same]
        unfold ownK
        rw [List.map_append]
        rfl
      · have c' : size = z.common := by
          by_cases e : size = z.common
          · exact e
          · exact absurd (by simpa using e) c
        rw [if_neg (fun n => n c'), List.append_nil]
        exact ⟨rfl, sD, eD1, eD2, eD3⟩
    rintro σ HE ⟨rfl, sE, eE1, eE2, eE3⟩
    refine ⟨fun σ H' => σ = List.set (start ["_law_z_here", "_law_k", "_law_size", "_law_hidden", "_law_made"] [.ref a, .int k, .int size, .bl hid]) 4 (some (.ref a1)) ∧ Same H H' ∧ ZH H' a1 o1 g1 (zwithM z k size hid), ?_, ?_⟩
    · refine ⟨_, rfl, _, rfl, ?_⟩
      refine ite2 (fun c => ?_) (fun c => ?_)
      · refine ⟨_, rfl, _, _, rfl, dg_gone eE1, _, rfl, g1, _, rfl, .inl ⟨_, Sum.inl k, eE3, rfl, ?_, rfl⟩, rfl, ?_⟩
        · unfold goneK
          rw [List.length_map]
          exact Nat.lt_of_le_of_lt l2 (show 1000 < sizeLine by decide)
        rw [eg, ← drop_goneK, putK_drop, drop_goneK, ← eg]
        refine ⟨sameU sE ng1' _, ⟨(upd_ne a1g1).trans eE1, ?_, ?_, a1o1, a1g1, o1g1⟩⟩
        · rw [upd_ne o1g1, eE2]
          unfold zwithM
          rw [eo]
        · rw [upd_same]
          unfold zwithM
          simp only [if_pos c]
          unfold goneK
          rw [List.map_append, eg]
          rfl
      · refine ⟨rfl, sE, ⟨eE1, ?_, ?_, a1o1, a1g1, o1g1⟩⟩
        · rw [eE2]
          unfold zwithM
          rw [eo]
        · rw [eE3]
          unfold zwithM
          simp only [if_neg c]
          rw [List.append_nil, eg]
    rintro σ HF ⟨rfl, sF, ZF⟩
    exact ⟨_, rfl, q a1 o1 g1 HF sF ZF na1 no1' ng1'⟩
abbrev s_z_set : Stmt := top 22
theorem sc_z_set : FnScope ["_law_z_here", "_law_k", "_law_size"] ["_law_z_here", "_law_k", "_law_size"] (defScope s_z_set) := ⟨rfl, rfl, rfl, by decide +kernel, rfl, by decide +kernel, by decide +kernel⟩
theorem ok_z_set (F : Fun K "_law_z_set" "_law_z_set" s_z_set f fd) (T : Tx K mg C cN cP cM cS cF tG tM tO tU tQ) (D_z_with : Dn P w K mg base CX0 1 "_law_z_with" ["_law_z_here", "_law_k", "_law_size", "_law_hidden"] spZwith) : FnOk P w K mg base CX0 2 f fd ["_law_z_here", "_law_k", "_law_size"] spZset := by
  refine F.ok sc_z_set (fun vs H Q E h => ?_) (fun cdv A outer s H vs Q E hr h => ?_)
  · obtain ⟨a, o, g, z, k, size, rfl, _⟩ := h
    rfl
  · obtain ⟨a, o, g, z, k, size, rfl, S, q⟩ := h
    have hu := hu_of hr
    refine ⟨_, (pss_one (ps_ret (pe_callD D_z_with (hr.mono (by omega)) (by rfl) pass0 (pa_cons (pv 0) (pa_cons (pv 1) (pa_cons (pv 2) (pa_cons (pe_cmp (pc_din hu (pv 1) (pe_dget hu (pv 0) pe_str (fun _ _ => rfl)))) pa_nil))))))), ?_⟩
    refine ⟨_, rfl, _, rfl, _, rfl, _, rfl, _, rfl, _, _, rfl, dg_gone S.ha, g, _, rfl, dg_gone1 S.hg k, ?_⟩
    rw [gone_some]
    exact ⟨a, o, g, z, k, size, _, rfl, S, q⟩
abbrev s_z_hide : Stmt := top 23
theorem sc_z_hide : FnScope ["_law_z_here", "_law_k", "_law_hidden"] ["_law_z_here", "_law_k", "_law_hidden"] (defScope s_z_hide) := ⟨rfl, rfl, rfl, by decide +kernel, rfl, by decide +kernel, by decide +kernel⟩
theorem ok_z_hide (F : Fun K "_law_z_hide" "_law_z_hide" s_z_hide f fd) (T : Tx K mg C cN cP cM cS cF tG tM tO tU tQ) (D_z_with : Dn P w K mg base CX0 1 "_law_z_with" ["_law_z_here", "_law_k", "_law_size", "_law_hidden"] spZwith) : FnOk P w K mg base CX0 2 f fd ["_law_z_here", "_law_k", "_law_hidden"] spZhide := by
  refine F.ok sc_z_hide (fun vs H Q E h => ?_) (fun cdv A outer s H vs Q E hr h => ?_)
  · obtain ⟨a, o, g, z, k, hid, rfl, _⟩ := h
    rfl
  · obtain ⟨a, o, g, z, k, hid, rfl, S, q⟩ := h
    have hu := hu_of hr
    refine ⟨_, (pss_one (ps_ret (pe_callD D_z_with (hr.mono (by omega)) (by rfl) pass0 (pa_cons (pv 0) (pa_cons (pv 1) (pa_cons (pe_dget2 hu (pe_dget hu (pv 0) pe_str (fun _ _ => rfl)) (pv 1) (pe_dget hu (pv 0) pe_str (fun _ _ => rfl)) ⟨rfl, rfl, rfl, rfl⟩) (pa_cons (pv 2) pa_nil))))))), ?_⟩
    refine ⟨_, rfl, _, rfl, _, rfl, _, _, rfl, dg_own S.ha, o, rfl, .inl ⟨_, .inl S.ho⟩, _, rfl, _, rfl, _, _, rfl, dg_common S.ha, _, dg_own1 S.ho k, _, rfl, ?_⟩
    rw [opt_int]
    exact ⟨a, o, g, z, k, _, hid, rfl, S, q⟩
abbrev s_told : Stmt := top 27
theorem sc_told : FnScope ["_law_sizes", "_law_point", "e"] ["_law_sizes", "_law_point"] (defScope s_told) := ⟨rfl, rfl, rfl, by decide +kernel, rfl, by decide +kernel, by decide +kernel⟩
theorem ok_told (F : Fun K "_law_told" "_law_told" s_told f fd) (T : Tx K mg C cN cP cM cS cF tG tM tO tU tQ) (T3 : Tx3 K mg cP cB) (M_at : Mn P w K mg base (L2.CX P w) 6 C "at" ["self", "point"] (spAt C cP)) : FnOk P w K mg base CX0 7 f fd ["_law_sizes", "_law_point"] (spTold C) := by
  refine F.ok sc_told (fun vs H Q E h => ?_) (fun cdv A outer s H vs Q E hr h => ?_)
  · obtain ⟨p, d, z, pt, rfl, _⟩ := h
    rfl
  · obtain ⟨p, d, z, pt, rfl, S, hp, k1, k2⟩ := h
    obtain ⟨dx, kvs, h1, h2, h3, W⟩ := id S
    refine ⟨_, (pss_one (ps_try_as (i := 2) rfl rfl sc_told.nd rfl rfl ⟨rfl, by decide, .inl T3.x_Beyond.g⟩ takes0 (fun W pn xe tk _ => (pss_one (ps_ret (pe_methSD T.cl M_at (hr.mono (by omega)) (fun σ => passAt tk σ) (pv 0) (pa_cons (pv 1) pa_nil))))) (fun a oe cls d pn hz hf => (pss_one (ps_ret (pe_ifExp (PW.pt (pw_and (pt_val (pe_callB (call_isX hz hf) (by rfl) T.no_isinstance (by decide +kernel) (pa_cons (pv 2) (pa_cons (glR (by rfl) T.x_NoPoint.g) pa_nil)))) (pw_and1 (pt_val (pe_callB (call_isX hz hf) (by rfl) T.no_isinstance (by decide +kernel) (pa_cons (pv 2) (pa_cons (pe_bltn (v := .ty "IndexError") (by rfl) T3.no_IndexError (by decide +kernel) rfl) pa_nil))))))) pe_str pe_str)))))), ?_⟩
    refine ⟨_, rfl, p, dx, _, rfl, h1, fz_no _ _ _, _, rfl, p, d, z, pt, rfl, S, hp, k1, fun no H1 s1 => ?_⟩
    refine ⟨true, exm_own T3.x_Beyond.b T3.x_Beyond.cl T3.x_Beyond.t T3.pb, fun _ e' he' => ?_, fun q => nomatch q⟩
    refine ⟨_, rfl, cP, _, _, true, rfl, rfl, T3.eP, rfl, rel_ref, kit_same, _, rfl, ?_⟩
    refine ifT rfl ?_
    refine ⟨_, rfl, cP, _, _, true, rfl, rfl, T3.eP, rfl, rel_ty, kit_tyE (by decide +kernel) T3.pi, _, rfl, ?_⟩
    exact ifT rfl (k2 no H1 s1)
end
end K03

set_option Elab.async false
set_option linter.all false
set_option maxRecDepth 100000
set_option maxHeartbeats 4000000
namespace K03
open PySem L2 Gs
section
variable {P : Program} {w : World} {K : PySem.W.Frag} {mg : Str → Option Value} {base : Heap} {f : Addr} {fd : FuncData} {C cN cP cM cS cF : Addr} {tG tM tO tU tQ : Tok}
abbrev s_law : Stmt := top 28
theorem sc_law : FnScope ["_law_script", "_law_draw", "_law_many", "_law_z_here", "_law_sizes", "_law_turn", "_law_k", "_law_size", "_law_due", "_law_point", "_law_within"] ["_law_script"] (defScope s_law) := ⟨rfl, rfl, rfl, by decide +kernel, rfl, by decide +kernel, by decide +kernel⟩
theorem ok_law (F : Fun K "law" "law" s_law f fd) (T : Tx K mg C cN cP cM cS cF tG tM tO tU tQ) (D_begin : Dn P w K mg base CX0 1 "_law_begin" ["_law_script"] (spBegin K)) (D_pick : Dn P w K mg base CX0 1 "_law_pick" ["_law_draw", "_law_many"] spPick) (D_far : Dn P w K mg base CX0 2 "_law_far" ["_law_draw"] spFar)
    (D_same : Dn P w K mg base CX0 3 "_law_same" ["_law_found", "_law_due"] (spSame K 3)) (D_z : Dn P w K mg base CX0 1 "_law_z" ["_law_many", "_law_usual"] spZnew) (D_z_size : Dn P w K mg base CX0 1 "_law_z_size" ["_law_z_here", "_law_k"] spZsize)
    (D_z_set : Dn P w K mg base CX0 2 "_law_z_set" ["_law_z_here", "_law_k", "_law_size"] spZset) (D_z_hide : Dn P w K mg base CX0 2 "_law_z_hide" ["_law_z_here", "_law_k", "_law_hidden"] spZhide) (D_told : Dn P w K mg base CX0 7 "_law_told" ["_law_sizes", "_law_point"] (spTold C))
    (D_Sizes : Cn P w K mg base (L2.CX P w) 2 C "Sizes" (spInit C cM cS)) (M_give : Mn P w K mg base (L2.CX P w) 4 C "give" ["self", "number", "size"] (spGive C cN cS cF)) (M_hide : Mn P w K mg base (L2.CX P w) 4 C "hide" ["self", "number"] (spTo C cN cF gHide)) : FnOk P w K mg base CX0 8 f fd ["_law_script"] (spLaw K) := by
  refine F.ok sc_law (fun vs H Q E h => ?_) (fun cdv A outer s H vs Q E hr h => ?_)
  · obtain ⟨a, ns, rfl, _⟩ := h
    rfl
  · obtain ⟨scr, ns, rfl, hS, h63, k⟩ := h
    have hu := hu_of hr
    refine ⟨_, (pss_cons (ps_set (i := 1) sc_law.nd rfl (.inl rfl) (pe_callD D_begin (hr.mono (by omega)) (by rfl) pass0 (pa_cons (pv 0) pa_nil)))
      (pss_cons (ps_set (i := 2) sc_law.nd rfl (.inl rfl) (pe_op op_add pe_int (pe_callD D_pick (hr.mono (by omega)) (by rfl) pass0 (pa_cons (pv 1) (pa_cons pe_int pa_nil)))))
      (pss_cons (ps_set (i := 3) sc_law.nd rfl (.inl rfl) (pe_callD D_z (hr.mono (by omega)) (by rfl) pass0 (pa_cons (pv 2) (pa_cons (pe_op op_add pe_int (pe_callD D_pick (hr.mono (by omega)) (by rfl) pass0 (pa_cons (pv 1) (pa_cons (pe_ix ix_tup (pe_tup (pa_cons pe_int (pa_cons pe_int pa_nil))) (pe_callD D_pick (hr.mono (by omega)) (by rfl) pass0 (pa_cons (pv 1) (pa_cons pe_int pa_nil))) (fun _ _ => rfl)) pa_nil)))) pa_nil))))
      (pss_cons (ps_set (i := 4) sc_law.nd rfl (.inr rfl) (pe_mkD D_Sizes (hr.mono (by omega)) (by rfl) passL (pa_cons (pv 2) pa_nil) (pk_cons (pe_dget hu (pv 3) pe_str (fun _ _ => rfl)) pk_nil)))
      (C8.pss_cut (ps_for PassesOwn.never rfl (pi_range1 (by rfl) T.no_range (pa_cons (pe_callD D_pick (hr.mono (by omega)) (by rfl) pass0 (pa_cons (pv 1) (pa_cons pe_int pa_nil))) pa_nil)) (pg_name (i := 5) sc_law.nd rfl (.inl rfl))
        (pss_cons (ps_set (i := 6) sc_law.nd rfl (.inr rfl) (pe_callD D_pick (hr.mono (by omega)) (by rfl) pass0 (pa_cons (pv 1) (pa_cons (pv 2) pa_nil))))
        (pss_one (ps_if (pt_cmpR op_eq (pe_callD D_pick (hr.mono (by omega)) (by rfl) pass0 (pa_cons (pv 1) (pa_cons pe_int pa_nil))) pe_int (nomark _)) (pss_cons (ps_set (i := 7) sc_law.nd rfl (.inl rfl) (pe_op op_add pe_int (pe_callD D_pick (hr.mono (by omega)) (by rfl) pass0 (pa_cons (pv 1) (pa_cons (pe_ix ix_tup (pe_tup (pa_cons pe_int (pa_cons pe_int pa_nil))) (pe_callD D_pick (hr.mono (by omega)) (by rfl) pass0 (pa_cons (pv 1) (pa_cons pe_int pa_nil))) (fun _ _ => rfl)) pa_nil)))))
          (pss_cons (ps_expr (pe_methD T.cl M_give (hr.mono (by omega)) passL (pv 4) (pa_cons (pv 6) (pa_cons (pv 7) pa_nil))))
          (pss_one (ps_set (i := 3) sc_law.nd rfl (.inl rfl) (pe_callD D_z_set (hr.mono (by omega)) (by rfl) pass0 (pa_cons (pv 3) (pa_cons (pv 6) (pa_cons (pv 7) pa_nil)))))))) (pss_cons (ps_expr (pe_methD T.cl M_hide (hr.mono (by omega)) passL (pv 4) (pa_cons (pv 6) pa_nil)))
          (pss_one (ps_set (i := 3) sc_law.nd rfl (.inl rfl) (pe_callD D_z_hide (hr.mono (by omega)) (by rfl) pass0 (pa_cons (pv 3) (pa_cons (pv 6) (pa_cons pe_bl pa_nil)))))))))))
      (pss_cons (ps_set (i := 8) sc_law.nd rfl (.inl rfl) (pe_lst pa_nil))
      (C8.pss_cut (ps_for PassesOwn.never rfl (pi_range1 (by rfl) T.no_range (pa_cons (pv 2) pa_nil)) (pg_name (i := 6) sc_law.nd rfl (.inr rfl))
        (pss_one (ps_set (i := 8) sc_law.nd rfl (.inl rfl) (pe_op op_cat (pv 8) (pe_lc (own := [("_law_within", 10)]) (g := gName 10) rfl sc_law.nd (pi_range1 (by rfl) T.no_range (pa_cons (pe_callD D_z_size (hr.mono (by omega)) (by rfl) pass0 (pa_cons (pv 3) (pa_cons (pv 6) pa_nil))) pa_nil)) (blkOk_by (N := ["_law_script", "_law_draw", "_law_many", "_law_z_here", "_law_sizes", "_law_turn", "_law_k", "_law_size", "_law_due", "_law_point", "_law_within"]) (sc := defScope s_law) (by decide +kernel)) (fun _ _ _ _ _ => (pg_name (i := 10) sc_law.nd rfl (Or.inl rfl))) (fun _ _ _ _ _ => pts_nil) (fun _ _ _ _ _ => (pe_tup (pa_cons (pv 6) (pa_cons (pv 10) pa_nil)))))))))
      (pss_cons (ps_if (pt_not (pt_val (pe_callD D_same (hr.mono (by omega)) (by rfl) pass0 (pa_cons (pe_lc (own := [("_law_point", 9)]) (g := gName 9) rfl sc_law.nd (pi_range1 (by rfl) T.no_range (pa_cons (pe_callB call_len_seq (by rfl) T.no_len (by decide +kernel) (pa_cons (pv 8) pa_nil)) pa_nil)) (blkOk_by (N := ["_law_script", "_law_draw", "_law_many", "_law_z_here", "_law_sizes", "_law_turn", "_law_k", "_law_size", "_law_due", "_law_point", "_law_within"]) (sc := defScope s_law) (by decide +kernel)) (fun _ _ _ _ _ => (pg_name (i := 9) sc_law.nd rfl (Or.inl rfl))) (fun _ _ _ _ _ => pts_nil) (fun _ _ _ _ _ => (pe_callD D_told (hr.mono (by omega)) (by rfl) pass0 (pa_cons (pv 4) (pa_cons (pv 9) pa_nil))))) (pa_cons (pv 8) pa_nil))))) (pss_one (ps_ret pe_bl)) pss_nil)
      (pss_one (ps_ret (pe_cmpR (op_eqD hr.units) (pe_lc (own := [("_law_point", 9)]) (g := gName 9) rfl sc_law.nd (pi_tup (pe_tup (pa_cons (pe_op op_sub pe_int pe_int) (pa_cons (pe_callB call_len_seq (by rfl) T.no_len (by decide +kernel) (pa_cons (pv 8) pa_nil)) (pa_cons (pe_callD D_far (hr.mono (by omega)) (by rfl) pass0 (pa_cons (pv 1) pa_nil)) pa_nil))))) (blkOk_by (N := ["_law_script", "_law_draw", "_law_many", "_law_z_here", "_law_sizes", "_law_turn", "_law_k", "_law_size", "_law_due", "_law_point", "_law_within"]) (sc := defScope s_law) (by decide +kernel)) (fun _ _ _ _ _ => (pg_name (i := 9) sc_law.nd rfl (Or.inl rfl))) (fun _ _ _ _ _ => pts_nil) (fun _ _ _ _ _ => (pe_callD D_told (hr.mono (by omega)) (by rfl) pass0 (pa_cons (pv 4) (pa_cons (pv 9) pa_nil))))) (pe_op op_rep (pe_lst (pa_cons pe_str pa_nil)) pe_int) (nomark _)))))))))))), ?_⟩
    refine ⟨_, rfl, _, _, rfl, hS, fun a H1 na D1 s1 => ?_⟩
    refine ⟨_, rfl, _, _, rfl, D1, by decide, by decide, fun r1 H2 p1 q1 D2 e2 => ?_⟩
    have q1' : r1 < 12 := q1
    refine ⟨_, _, rfl, rfl, ?_⟩
    obtain ⟨many, em⟩ : ∃ many : Int, many = 1 + r1 := ⟨_, rfl⟩
    show gName 2 (V.int (1 + r1)) _ _ _
    rw [← em]
    refine ⟨_, rfl, _, rfl, (by show 2 ≤ sizeLine; decide), fun t3 n3 => ?_⟩
    have s3 := same_new n3 (.tup [.int 3, .int 60])
    refine ⟨_, rfl, _, _, rfl, D2.same s3, by decide, by decide, fun r4 H4 p4 q4 D4 e4 => ?_⟩
    have et4 := (Ext.pick D4 e4).tup (D2.same s3) (show _ = some (HO.tup [.int 3, .int 60]) from upd_same)
    obtain ⟨m4, hm4, em4⟩ := ints2 (a := 3) (b := 60) p4 q4
    refine ⟨_, _, _, _, rfl, rfl, SqT.of et4, em4, ?_⟩
    refine ⟨_, _, rfl, D4, by omega, by omega, fun r5 H5 p5 q5 D5 e5 => ?_⟩
    refine ⟨_, _, rfl, rfl, ?_⟩
    obtain ⟨c, ec⟩ : ∃ c : Int, c = 1 + r5 := ⟨_, rfl⟩
    have hc : 1 ≤ c ∧ c ≤ 60 := by omega
    refine ⟨many, c, (by subst ec; rfl), ⟨by omega, by omega⟩, hc, fun za zo zg H6 s6 Z6 _ _ _ => ?_⟩
    have D6 := D5.same s6
    refine ⟨_, rfl, _, rfl, _, _, rfl, dg_common Z6.ha, rfl, rfl, fun x dx nx nd ne => ?_⟩
    have s7 := new2 nx nd ne (.own x) (.ins C dx [])
    have good : (1 ≤ many ∧ many ≤ 1000000) ∧ (1 ≤ c ∧ c ≤ 60) := ⟨⟨by omega, by omega⟩, hc⟩
    refine ⟨x, dx, many, c, rfl, upd_same, Sm.of (by omega) (by omega), Sm.of (by omega) (by omega), fun _ d H7 hd S7 fr => ⟨rfl, ?_⟩, fun no => absurd good.1 no, fun _ no => absurd good.2 no⟩
    have s67 : Same H6 H7 := fun b o q => fr b o (s7 _ _ q) (ne_of_none q nx)
    have B7 : Both C H7 x d za zo zg ⟨many, c, []⟩ ⟨many, c, [], []⟩ := by
      have nd6 : ∀ b o, H6 b = some o → d ≠ b := fun b o q e => by
        have := s7 _ _ q
        rw [← e, hd] at this
        cases this
      exact ⟨S7, Z6.same s67, rel0 _ _, zw0 _ _, nd6 _ _ Z6.ha, nd6 _ _ Z6.ho, nd6 _ _ Z6.hg⟩
    have D7 := D6.same s67
    clear fr hd s7 nx nd ne s67 Z6 S7 D6 D5 D4 D2 e5 e4 e2 et4 s6 s3
    -- the deeds
    refine ⟨fun σ H' => DrawAt H' a ∧ ∃ za zo zg s z x5 x6 x7, σ = [some (.ref scr), some (.ref a), some (.int many), some (.ref za), some (.ref x), x5, x6, x7, none, none, none] ∧ Both C H' x d za zo zg s z ∧ s.many = many, ?_, ?_⟩
    · refine ⟨_, rfl, _, _, rfl, D7, by decide, by decide, fun r8 H8 p8 q8 D8 e8 => ?_⟩
      have q8' : r8 < 14 := q8
      refine ⟨_, rfl, by omega, by omega, ?_⟩
      refine for_range (lo := 0) (n := Int.toNat r8) (fun j σ H' => DrawAt H' a ∧ ∃ za zo zg s z x5 x6 x7, σ = [some (.ref scr), some (.ref a), some (.int many), some (.ref za), some (.ref x), x5, x6, x7, none, none, none] ∧ Both C H' x d za zo zg s z ∧ s.many = many ∧ s.odd.length ≤ j) ⟨D8, za, zo, zg, _, _, _, _, _, rfl, B7.nls (Nls.ext D7 (Ext.pick D8 e8)), rfl, Nat.le_refl _⟩ ?_ ?_
      · rintro j σ H9 hj ⟨D9, za, zo, zg, sz, z, x5, x6, x7, rfl, B9, hm, ho⟩
        have fewer : sz.odd.length < 60 := by omega
        refine ⟨_, rfl, _, rfl, _, _, rfl, D9, by omega, by omega, fun rk H10 p10 q10 D10 e10 => ?_⟩
        refine ⟨_, rfl, _, _, rfl, D10, by decide, by decide, fun rb H11 p11 q11 D11 e11 => ⟨rfl, _, rfl, ?_⟩⟩
        have B11 := (B9.nls (Nls.ext D9 (Ext.pick D10 e10))).nls (Nls.ext D10 (Ext.pick D11 e11))
        have inr : inR sz rk := ⟨p10, by rw [hm]; exact q10⟩
        refine ite2 (fun c0 => ?_) (fun c0 => ?_)
        · refine ⟨_, rfl, (by show 2 ≤ sizeLine; decide), fun t12 n12 => ?_⟩
          have s12 := same_new n12 (.tup [.int 4, .int 60])
          refine ⟨_, rfl, _, _, rfl, D11.same s12, by decide, by decide, fun r13 H13 p13 q13 D13 e13 => ?_⟩
          have et := (Ext.pick D13 e13).tup (D11.same s12) (show _ = some (HO.tup [.int 4, .int 60]) from upd_same)
          obtain ⟨m13, hm13, em13⟩ := ints2 (a := 4) (b := 60) p13 q13
          refine ⟨_, _, _, _, rfl, rfl, SqT.of et, em13, ?_⟩
          refine ⟨_, _, rfl, D13, by omega, by omega, fun r14 H14 p14 q14 D14 e14 => ?_⟩
          refine ⟨_, _, rfl, rfl, ?_⟩
          obtain ⟨size, es⟩ : ∃ size : Int, size = 1 + r14 := ⟨_, rfl⟩
          show gName 7 (V.int (1 + r14)) _ _ _
          rw [← es]
          have hs : 1 ≤ size ∧ size ≤ 60 := by omega
          have B14 := ((B11.nls (Nls.of s12)).nls (Nls.ext (D11.same s12) (Ext.pick D13 e13))).nls (Nls.ext D13 (Ext.pick D14 e14))
          obtain ⟨dx', hx⟩ := szw_ins B14.S
          obtain ⟨kvs, hdk⟩ := szw_dict B14.S
          refine ⟨_, rfl, x, dx', _, rfl, hx, fz_no _ _ _, _, rfl, _, rfl, x, d, sz, rk, size, rfl, B14.S, Sm.of (by omega) (by omega), Sm.of (by omega) (by omega), fun _ _ _ nf H15 fr15 S15 => ?_, fun no => absurd inr no, fun _ no => absurd hs no, fun _ _ _ fu => absurd fu.2.2 (by omega)⟩
          refine ⟨_, rfl, _, rfl, _, rfl, za, zo, zg, z, rk, size, rfl, B14.Z.frm B14.da B14.dO B14.dg fr15, fun a' o' g' H16 s16 zh na' no' ng' => ?_⟩
          have e1 : (zst z rk).2 = (stM sz rk).2 := by rw [B14.R.st rk]
          rw [e1] at zh
          have B16 := Both.step B14.w B14.R S15 s16 zh na' no' ng'
          refine ⟨(D14.frm hdk fr15).same s16, a', o', g', _, _, _, _, _, rfl, B16, hm, ?_⟩
          have := keep_len sz rk size (stM sz rk).2
          omega
        · obtain ⟨dx', hx⟩ := szw_ins B11.S
          obtain ⟨kvs, hdk⟩ := szw_dict B11.S
          refine ⟨_, rfl, x, dx', _, rfl, hx, fz_no _ _ _, _, rfl, x, d, sz, rk, rfl, B11.S, Sm.of (by omega) (by omega), fun _ nf H15 fr15 S15 => ?_, fun no => absurd inr no, fun _ fu => absurd fu.2.2 (by omega)⟩
          refine ⟨_, rfl, _, rfl, za, zo, zg, z, rk, true, rfl, B11.Z.frm B11.da B11.dO B11.dg fr15, fun a' o' g' H16 s16 zh na' no' ng' => ?_⟩
          have e1 : (zst z rk).1 = (stM sz rk).1 := by rw [B11.R.st rk]
          rw [e1] at zh
          have B16 := Both.step B11.w B11.R S15 s16 zh na' no' ng'
          refine ⟨(D11.frm hdk fr15).same s16, a', o', g', _, _, _, _, _, rfl, B16, hm, ?_⟩
          exact Nat.le_trans (keep_len _ _ _ _) (by omega)
      · rintro σ H9 ⟨D9, za, zo, zg, sz, z, x5, x6, x7, rfl, B9, hm, ho⟩
        exact ⟨D9, za, zo, zg, sz, z, _, _, _, rfl, B9, hm⟩
    rintro σ H9 ⟨D9, za, zo, zg, sz, z, x5, x6, x7, rfl, B9, hm⟩
    clear B7 D7
    have W := B9.S.wf
    -- all points
    refine ⟨(by show 0 ≤ sizeLine; decide), fun l10 n10 => ?_⟩
    have s10 := same_new n10 (.lst [])
    refine ⟨fun σ H' => Same H9 H' ∧ ∃ x6 l xs, σ = [some (.ref scr), some (.ref a), some (.int many), some (.ref za), some (.ref x), x5, x6, x7, some (.ref l), none, none] ∧ H' l = some (.lst xs) ∧ DpP H' xs (dueL sz many.toNat), ?_, ?_⟩
    · refine ⟨_, rfl, _, rfl, by omega, by omega, ?_⟩
      refine for_range (lo := 0) (n := Int.toNat many) (fun j σ H' => Same H9 H' ∧ ∃ x6 l xs, σ = [some (.ref scr), some (.ref a), some (.int many), some (.ref za), some (.ref x), x5, x6, x7, some (.ref l), none, none] ∧ H' l = some (.lst xs) ∧ DpP H' xs (dueL sz j)) ⟨s10, _, l10, [], rfl, upd_same, .nil⟩ ?_ ?_
      · rintro j σ H11 hj ⟨s11, x6, l, xs, rfl, el, dl⟩
        have B11 := B9.nls (Nls.of s11)
        have dlen := due_len W j
        have ar := ah_range W (show (0 : Int) ≤ (j : Int) by omega)
        have zr := sz_range W (j : Int)
        have ez : zsz z (0 + (j : Int)) = szM sz (j : Int) := by rw [show 0 + (j : Int) = (j : Int) by omega, B9.R.sz]
        refine ⟨_, rfl, _, rfl, _, rfl, za, zo, zg, z, 0 + (j : Int), rfl, B11.Z, ?_⟩
        rw [ez]
        refine ⟨_, rfl, by omega, by omega, fun D12 hD12 => ?_⟩
        refine lc_range (lo := 0) (n := Int.toNat (szM sz (j : Int))) (fun i H' => Same H11 H' ∧ ∃ acc, H' D12 = some (.lst acc) ∧ DpP H' acc ((List.range i).map fun (w : Nat) => ((j : Int), (w : Int)))) ⟨same_new hD12 _, [], upd_same, .nil⟩ ?_ ?_
        · rintro i H13 hi ⟨s13, acc, e13, da⟩
          refine ⟨rfl, ?_⟩
          unfold tYes
          refine ifT rfl ?_
          refine ⟨_, rfl, _, rfl, (by show 2 ≤ sizeLine; decide), fun t ht => ?_⟩
          have st := same_new ht (.tup [.int (0 + (j : Int)), .int (0 + (i : Int))])
          have et : upd H13 t (.tup [.int (0 + (j : Int)), .int (0 + (i : Int))]) t = some (.tup [.int (0 + (j : Int)), .int (0 + (i : Int))]) := upd_same
          generalize upd H13 t (.tup [.int (0 + (j : Int)), .int (0 + (i : Int))]) = H14 at st et ⊢
          have al := da.len
          rw [List.length_map, List.length_range] at al
          refine ⟨acc, st _ _ e13, Nat.lt_of_le_of_lt (by omega) (show 60 < sizeLine by decide), ?_, acc ++ [.ref t], upd_same, ?_⟩
          · intro b' o q
            rw [upd_ne (ne_of_none q hD12)]
            exact st _ _ (s13 _ _ q)
          · have ts : TupSame H14 (upd H14 D12 (.lst (acc ++ [.ref t]))) := TupSame.upd (st _ _ e13) (fun xs e => by cases e) _
            rw [List.range_succ, List.map_append]
            refine ((da.mono (TupSame.of st)).mono ts).append (.cons ⟨t, rfl, ts _ _ ?_⟩ .nil)
            rw [et, show 0 + (j : Int) = (j : Int) by omega, show 0 + (i : Int) = (i : Int) by omega]
        rintro H13 ⟨s13, acc, e13, da⟩
        have al := da.len
        rw [List.length_map, List.length_range] at al
        have xl := dl.len
        refine ⟨_, _, _, _, rfl, rfl, s13 _ _ el, e13, small (by omega), fun p14 n14 => ?_⟩
        have s14 := same_new n14 (.lst (xs ++ acc))
        refine ⟨s11.trans (s13.trans s14), _, p14, xs ++ acc, rfl, upd_same, ?_⟩
        unfold dueL
        exact (dl.mono (TupSame.of (s13.trans s14))).append (da.mono (TupSame.of s14))
      · rintro σ H11 ⟨s11, x6, l, xs, rfl, el, dl⟩
        exact ⟨s11, _, l, xs, rfl, el, dl⟩
    rintro σ H11 ⟨s11, y6, l, xs, rfl, el, dl⟩
    have D11 := D9.same s11
    have B11 := B9.nls (Nls.of s11)
    have dlen := due_len W many.toNat
    have emn : ((many.toNat : Nat) : Int) = sz.many := by omega
    rw [emn] at dlen
    have ar := ah_range W (show (0 : Int) ≤ sz.many by omega)
    have xl := dl.len
    have lim : (dueL sz many.toNat).length ≤ 720 := by omega
    refine ⟨_, rfl, _, _, rfl, .inl (SqL.of el), _, rfl, by omega, by omega, fun D12 hD12 => ?_⟩
    refine lc_range (lo := 0) (n := Int.toNat (xs.length : Int)) (fun i H' => Same H11 H' ∧ ∃ acc, H' D12 = some (.lst acc) ∧ DpP H' acc ((dueL sz many.toNat).take i)) ⟨same_new hD12 _, [], upd_same, .nil⟩ ?_ ?_
    · rintro i H13 hi ⟨s13, acc, e13, da⟩
      refine ⟨rfl, ?_⟩
      unfold tYes
      refine ifT rfl ?_
      have B13 := B11.nls (Nls.of s13)
      refine ⟨_, rfl, _, rfl, x, d, sz, 0 + (i : Int), rfl, B13.S, Sm.of (by omega) (by omega), fun g0 g1 kk t H14 kin k0 k1 s14 e14 => ?_, fun no => absurd ⟨by omega, by omega⟩ no⟩
      have al := da.len
      rw [List.length_take] at al
      have da' := due_at W kin.1 (show 0 ≤ 0 + (i : Int) - ahM sz kk by omega) (by omega) many.toNat (by have := kin.2; omega)
      have ei : (ahM sz kk + (0 + (i : Int) - ahM sz kk)).toNat = i := by omega
      rw [ei] at da'
      refine ⟨acc, s14 _ _ e13, Nat.lt_of_le_of_lt (by omega) (show 720 < sizeLine by decide), ?_, acc ++ [.ref t], upd_same, ?_⟩
      · intro b' o q
        rw [upd_ne (ne_of_none q hD12)]
        exact s14 _ _ (s13 _ _ q)
      · have ts : TupSame H14 (upd H14 D12 (.lst (acc ++ [.ref t]))) := TupSame.upd (s14 _ _ e13) (fun xs e => by cases e) _
        rw [List.take_add_one, da']
        exact ((da.mono (TupSame.of s14)).mono ts).append (.cons ⟨t, rfl, ts _ _ e14⟩ .nil)
    rintro H13 ⟨s13, acc, e13, da⟩
    rw [show Int.toNat (xs.length : Int) = (dueL sz many.toNat).length by omega, List.take_length] at da
    refine ⟨_, rfl, _, _, .list ((dueL sz many.toNat).map Gs.prD), rfl, ?_, ?_, ?_, ?_, fun H14 s14 => ⟨_, rfl, ?_⟩⟩
    · exact .lst (SqL.of e13) da.dp
    · exact .lst (SqL.of (s13 _ _ el)) (dl.mono (TupSame.of s13)).dp
    · have := pr_depth (dueL sz many.toNat)
      simp only [PyData.depth]
      omega
    · have := pr_mxl (dueL sz many.toNat)
      simp only [mxl, List.length_map]
      omega
    refine ifF (by simp) ?_
    -- beyond
    have D14 := (D11.same s13).same s14
    have B14 := (B11.nls (Nls.of s13)).nls (Nls.of s14)
    have el14 := s14 _ _ (s13 _ _ el)
    refine ⟨_, _, rfl, rfl, _, rfl, _, _, rfl, .inl (SqL.of el14), _, rfl, a, rfl, D14, fun fr H15 sfr ffr X15 => ?_⟩
    refine ⟨(by show 3 ≤ sizeLine; decide), fun t16 n16 => ?_⟩
    obtain ⟨H16, eH⟩ : ∃ H16, H16 = upd H15 t16 (.tup ([0 - 1, (xs.length : Int), fr].map V.int)) := ⟨_, rfl⟩
    have s16 : Same H15 H16 := by rw [eH]; exact same_new n16 _
    have et16 : H16 t16 = some (.tup ([0 - 1, (xs.length : Int), fr].map V.int)) := by rw [eH]; exact upd_same
    refine ⟨t16, rfl, ⟨_, SqT.of upd_same⟩, fun D17 hD17 => ?_⟩
    have hD : H16 D17 = none := by rw [eH]; exact hD17
    have B16 := (B14.nls (Nls.ext D14 X15)).nls (Nls.of s16)
    have bad : ∀ n ∈ [0 - 1, (xs.length : Int), fr], Sm n ∧ ¬ (0 ≤ n ∧ n < ahM sz sz.many) := by
      intro n hn
      simp only [List.mem_cons, List.mem_nil_iff, or_false] at hn
      rcases hn with rfl | rfl | rfl
      · exact ⟨Sm.of (by decide) (by decide), by omega⟩
      · exact ⟨Sm.of (by omega) (by omega), by omega⟩
      · exact ⟨sfr, by omega⟩
    refine lc_tup (K := K) (a := t16) (xs := [0 - 1, (xs.length : Int), fr].map V.int) (fun j H' => Same H16 H' ∧ H' D17 = some (.lst (List.replicate j (V.str "no")))) ⟨by rw [eH]; exact same_new hD17 _, upd_same⟩ (fun j H' _ q => SqT.of (q.1 _ _ et16)) ?_ ?_
    · rintro j y H18 hy ⟨s18, e18⟩
      rw [List.getElem?_map] at hy
      have hj3 : j < 3 := by
        by_cases q : j < 3
        · exact q
        · rw [List.getElem?_eq_none (by show 3 ≤ j; omega)] at hy
          cases hy
      cases hj : [0 - 1, (xs.length : Int), fr][j]? with
      | none => rw [hj] at hy; cases hy
      | some nn =>
        rw [hj] at hy
        have hy' : V.int nn = y := Option.some.inj hy
        subst hy'
        have bn := bad nn (List.mem_of_getElem? hj)
        refine ⟨rfl, ?_⟩
        unfold tYes
        refine ifT rfl ?_
        refine ⟨_, rfl, _, rfl, x, d, sz, nn, rfl, (B16.nls (Nls.of s18)).S, bn.1, fun g0 g1 => absurd ⟨g0, g1⟩ bn.2, fun _ H19 s19 => ?_⟩
        refine ⟨_, s19 _ _ e18, Nat.lt_of_le_of_lt (by rw [List.length_replicate]; omega) (show 3 < sizeLine by decide), ?_, ?_⟩
        · intro b' o q
          rw [upd_ne (ne_of_none q hD)]
          exact s19 _ _ (s18 _ _ q)
        · rw [upd_same, ← List.replicate_succ']
    rintro H18 ⟨s18, e18⟩
    refine ⟨(by show 1 ≤ sizeLine; decide), fun l19 n19 => ?_⟩
    refine ⟨l19, 3, _, rfl, rfl, upd_same, by decide, by decide, (by show 3 ≤ sizeLine; decide), fun l20 n20 => ?_⟩
    have s19 := same_new n19 (.lst [.str "no"])
    have s20 := same_new n20 (.lst (List.replicate (Int.toNat 3) [V.str "no"]).flatten)
    refine ⟨.list [.str "no", .str "no", .str "no"], .list [.str "no", .str "no", .str "no"], ?_, ?_, by decide +kernel, by decide +kernel, ?_⟩
    · exact .lst (SqL.of (s20 _ _ (s19 _ _ e18))) (.cons (.str _) (.cons (.str _) (.cons (.str _) .nil)))
    · exact .lst (SqL.of upd_same) (.cons (.str _) (.cons (.str _) (.cons (.str _) .nil)))
    · rw [shaped_eqv (by decide +kernel)]
      exact k _
end
end K03

set_option Elab.async false
set_option linter.all false
set_option maxRecDepth 100000
set_option maxHeartbeats 4000000
namespace K03
open PySem L2 Gs
theorem all_mk {l : PySem.W.OpenLaw} {w : World} {K : PySem.W.Frag} {h : Heap} {mg : Str → Option Value} {fa : Addr} {C cN cP cM cS cF cB : Addr} {tG tM tQ : Tok} {kV_init : Value} (X : K.In h) (G : h.Ns mainGlobals mg) (hfa : mg "law" = some (.ref fa))
    {f_begin : Addr} {od_begin an_begin : Option Addr} {sl_begin : Array (Option Value)} {oc_begin dc_begin pm_begin cd_begin ct_begin kV_begin : Value}
    (a_begin : PySem.W.nsIn K mainGlobals "_law_begin" = some (some (.ref f_begin)))
    (l_begin : K.lookup f_begin = some ⟨oc_begin, od_begin, .func (PySem.W.fnOf "_law_begin" "_law_begin" (defArgs s_begin) (defBody s_begin) (defScope s_begin) .none kV_begin dc_begin pm_begin an_begin cd_begin ct_begin), sl_begin⟩)
    (c_begin : PySem.W.codeIn K cd_begin "_law_begin" = true)
    (k_begin : PySem.W.keepIn K (.ref f_begin) = true)
    {f_pick : Addr} {od_pick an_pick : Option Addr} {sl_pick : Array (Option Value)} {oc_pick dc_pick pm_pick cd_pick ct_pick kV_pick : Value}
    (a_pick : PySem.W.nsIn K mainGlobals "_law_pick" = some (some (.ref f_pick)))
    (l_pick : K.lookup f_pick = some ⟨oc_pick, od_pick, .func (PySem.W.fnOf "_law_pick" "_law_pick" (defArgs s_pick) (defBody s_pick) (defScope s_pick) .none kV_pick dc_pick pm_pick an_pick cd_pick ct_pick), sl_pick⟩)
    (c_pick : PySem.W.codeIn K cd_pick "_law_pick" = true)
    (k_pick : PySem.W.keepIn K (.ref f_pick) = true)
    {f_far : Addr} {od_far an_far : Option Addr} {sl_far : Array (Option Value)} {oc_far dc_far pm_far cd_far ct_far kV_far : Value}
    (a_far : PySem.W.nsIn K mainGlobals "_law_far" = some (some (.ref f_far)))
    (l_far : K.lookup f_far = some ⟨oc_far, od_far, .func (PySem.W.fnOf "_law_far" "_law_far" (defArgs s_far) (defBody s_far) (defScope s_far) .none kV_far dc_far pm_far an_far cd_far ct_far), sl_far⟩)
    (c_far : PySem.W.codeIn K cd_far "_law_far" = true)
    (k_far : PySem.W.keepIn K (.ref f_far) = true)
    {f_check_size : Addr} {od_check_size an_check_size : Option Addr} {sl_check_size : Array (Option Value)} {oc_check_size dc_check_size pm_check_size cd_check_size ct_check_size kV_check_size : Value}
    (a_check_size : PySem.W.nsIn K mainGlobals "check_size" = some (some (.ref f_check_size)))
    (l_check_size : K.lookup f_check_size = some ⟨oc_check_size, od_check_size, .func (PySem.W.fnOf "check_size" "check_size" (defArgs s_check_size) (defBody s_check_size) (defScope s_check_size) .none kV_check_size dc_check_size pm_check_size an_check_size cd_check_size ct_check_size), sl_check_size⟩)
    (c_check_size : PySem.W.codeIn K cd_check_size "check_size" = true)
    (k_check_size : PySem.W.keepIn K (.ref f_check_size) = true)
    {f_check_number : Addr} {od_check_number an_check_number : Option Addr} {sl_check_number : Array (Option Value)} {oc_check_number dc_check_number pm_check_number cd_check_number ct_check_number kV_check_number : Value}
    (a_check_number : PySem.W.nsIn K mainGlobals "check_number" = some (some (.ref f_check_number)))
    (l_check_number : K.lookup f_check_number = some ⟨oc_check_number, od_check_number, .func (PySem.W.fnOf "check_number" "check_number" (defArgs s_check_number) (defBody s_check_number) (defScope s_check_number) .none kV_check_number dc_check_number pm_check_number an_check_number cd_check_number ct_check_number), sl_check_number⟩)
    (c_check_number : PySem.W.codeIn K cd_check_number "check_number" = true)
    (k_check_number : PySem.W.keepIn K (.ref f_check_number) = true)
    {f_z_size : Addr} {od_z_size an_z_size : Option Addr} {sl_z_size : Array (Option Value)} {oc_z_size dc_z_size pm_z_size cd_z_size ct_z_size kV_z_size : Value}
    (a_z_size : PySem.W.nsIn K mainGlobals "_law_z_size" = some (some (.ref f_z_size)))
    (l_z_size : K.lookup f_z_size = some ⟨oc_z_size, od_z_size, .func (PySem.W.fnOf "_law_z_size" "_law_z_size" (defArgs s_z_size) (defBody s_z_size) (defScope s_z_size) .none kV_z_size dc_z_size pm_z_size an_z_size cd_z_size ct_z_size), sl_z_size⟩)
    (c_z_size : PySem.W.codeIn K cd_z_size "_law_z_size" = true)
    (k_z_size : PySem.W.keepIn K (.ref f_z_size) = true)
    {f_same : Addr} {od_same an_same : Option Addr} {sl_same : Array (Option Value)} {oc_same dc_same pm_same cd_same ct_same kV_same : Value}
    (a_same : PySem.W.nsIn K mainGlobals "_law_same" = some (some (.ref f_same)))
    (l_same : K.lookup f_same = some ⟨oc_same, od_same, .func (PySem.W.fnOf "_law_same" "_law_same" (defArgs s_same) (defBody s_same) (defScope s_same) .none kV_same dc_same pm_same an_same cd_same ct_same), sl_same⟩)
    (c_same : PySem.W.codeIn K cd_same "_law_same" = true)
    (k_same : PySem.W.keepIn K (.ref f_same) = true)
    {f_z : Addr} {od_z an_z : Option Addr} {sl_z : Array (Option Value)} {oc_z dc_z pm_z cd_z ct_z kV_z : Value}
    (a_z : PySem.W.nsIn K mainGlobals "_law_z" = some (some (.ref f_z)))
    (l_z : K.lookup f_z = some ⟨oc_z, od_z, .func (PySem.W.fnOf "_law_z" "_law_z" (defArgs s_z) (defBody s_z) (defScope s_z) .none kV_z dc_z pm_z an_z cd_z ct_z), sl_z⟩)
    (c_z : PySem.W.codeIn K cd_z "_law_z" = true)
    (k_z : PySem.W.keepIn K (.ref f_z) = true)
    {f_z_with : Addr} {od_z_with an_z_with : Option Addr} {sl_z_with : Array (Option Value)} {oc_z_with dc_z_with pm_z_with cd_z_with ct_z_with kV_z_with : Value}
    (a_z_with : PySem.W.nsIn K mainGlobals "_law_z_with" = some (some (.ref f_z_with)))
    (l_z_with : K.lookup f_z_with = some ⟨oc_z_with, od_z_with, .func (PySem.W.fnOf "_law_z_with" "_law_z_with" (defArgs s_z_with) (defBody s_z_with) (defScope s_z_with) .none kV_z_with dc_z_with pm_z_with an_z_with cd_z_with ct_z_with), sl_z_with⟩)
    (c_z_with : PySem.W.codeIn K cd_z_with "_law_z_with" = true)
    (k_z_with : PySem.W.keepIn K (.ref f_z_with) = true)
    {f_z_set : Addr} {od_z_set an_z_set : Option Addr} {sl_z_set : Array (Option Value)} {oc_z_set dc_z_set pm_z_set cd_z_set ct_z_set kV_z_set : Value}
    (a_z_set : PySem.W.nsIn K mainGlobals "_law_z_set" = some (some (.ref f_z_set)))
    (l_z_set : K.lookup f_z_set = some ⟨oc_z_set, od_z_set, .func (PySem.W.fnOf "_law_z_set" "_law_z_set" (defArgs s_z_set) (defBody s_z_set) (defScope s_z_set) .none kV_z_set dc_z_set pm_z_set an_z_set cd_z_set ct_z_set), sl_z_set⟩)
    (c_z_set : PySem.W.codeIn K cd_z_set "_law_z_set" = true)
    (k_z_set : PySem.W.keepIn K (.ref f_z_set) = true)
    {f_z_hide : Addr} {od_z_hide an_z_hide : Option Addr} {sl_z_hide : Array (Option Value)} {oc_z_hide dc_z_hide pm_z_hide cd_z_hide ct_z_hide kV_z_hide : Value}
    (a_z_hide : PySem.W.nsIn K mainGlobals "_law_z_hide" = some (some (.ref f_z_hide)))
    (l_z_hide : K.lookup f_z_hide = some ⟨oc_z_hide, od_z_hide, .func (PySem.W.fnOf "_law_z_hide" "_law_z_hide" (defArgs s_z_hide) (defBody s_z_hide) (defScope s_z_hide) .none kV_z_hide dc_z_hide pm_z_hide an_z_hide cd_z_hide ct_z_hide), sl_z_hide⟩)
    (c_z_hide : PySem.W.codeIn K cd_z_hide "_law_z_hide" = true)
    (k_z_hide : PySem.W.keepIn K (.ref f_z_hide) = true)
    {f_told : Addr} {od_told an_told : Option Addr} {sl_told : Array (Option Value)} {oc_told dc_told pm_told cd_told ct_told kV_told : Value}
    (a_told : PySem.W.nsIn K mainGlobals "_law_told" = some (some (.ref f_told)))
    (l_told : K.lookup f_told = some ⟨oc_told, od_told, .func (PySem.W.fnOf "_law_told" "_law_told" (defArgs s_told) (defBody s_told) (defScope s_told) .none kV_told dc_told pm_told an_told cd_told ct_told), sl_told⟩)
    (c_told : PySem.W.codeIn K cd_told "_law_told" = true)
    (k_told : PySem.W.keepIn K (.ref f_told) = true)
    {f_law : Addr} {od_law an_law : Option Addr} {sl_law : Array (Option Value)} {oc_law dc_law pm_law cd_law ct_law kV_law : Value}
    (a_law : PySem.W.nsIn K mainGlobals "law" = some (some (.ref f_law)))
    (l_law : K.lookup f_law = some ⟨oc_law, od_law, .func (PySem.W.fnOf "law" "law" (defArgs s_law) (defBody s_law) (defScope s_law) .none kV_law dc_law pm_law an_law cd_law ct_law), sl_law⟩)
    (c_law : PySem.W.codeIn K cd_law "law" = true)
    (k_law : PySem.W.keepIn K (.ref f_law) = true)
    {f_state : Addr} {od_state an_state : Option Addr} {sl_state : Array (Option Value)} {oc_state dc_state pm_state cd_state ct_state kV_state : Value}
    (a_state : PySem.W.findIn K (.ref C) "state" = some (some (.ref f_state)))
    (i_state : PySem.W.isFn K (.ref f_state) = true)
    (l_state : K.lookup f_state = some ⟨oc_state, od_state, .func (PySem.W.fnOf "state" "Sizes.state" (defArgs s_Sizes_state) (defBody s_Sizes_state) (defScope s_Sizes_state) .none kV_state dc_state pm_state an_state cd_state ct_state), sl_state⟩)
    (c_state : PySem.W.codeIn K cd_state "Sizes.state" = true)
    (k_state : PySem.W.keepIn K (.ref f_state) = true)
    {f_size : Addr} {od_size an_size : Option Addr} {sl_size : Array (Option Value)} {oc_size dc_size pm_size cd_size ct_size kV_size : Value}
    (a_size : PySem.W.findIn K (.ref C) "size" = some (some (.ref f_size)))
    (i_size : PySem.W.isFn K (.ref f_size) = true)
    (l_size : K.lookup f_size = some ⟨oc_size, od_size, .func (PySem.W.fnOf "size" "Sizes.size" (defArgs s_Sizes_size) (defBody s_Sizes_size) (defScope s_Sizes_size) .none kV_size dc_size pm_size an_size cd_size ct_size), sl_size⟩)
    (c_size : PySem.W.codeIn K cd_size "Sizes.size" = true)
    (k_size : PySem.W.keepIn K (.ref f_size) = true)
    {f_own : Addr} {od_own an_own : Option Addr} {sl_own : Array (Option Value)} {oc_own dc_own pm_own cd_own ct_own kV_own : Value}
    (a_own : PySem.W.findIn K (.ref C) "own" = some (some (.ref f_own)))
    (i_own : PySem.W.isFn K (.ref f_own) = true)
    (l_own : K.lookup f_own = some ⟨oc_own, od_own, .func (PySem.W.fnOf "own" "Sizes.own" (defArgs s_Sizes_own) (defBody s_Sizes_own) (defScope s_Sizes_own) .none kV_own dc_own pm_own an_own cd_own ct_own), sl_own⟩)
    (c_own : PySem.W.codeIn K cd_own "Sizes.own" = true)
    (k_own : PySem.W.keepIn K (.ref f_own) = true)
    {f_hidden : Addr} {od_hidden an_hidden : Option Addr} {sl_hidden : Array (Option Value)} {oc_hidden dc_hidden pm_hidden cd_hidden ct_hidden kV_hidden : Value}
    (a_hidden : PySem.W.findIn K (.ref C) "hidden" = some (some (.ref f_hidden)))
    (i_hidden : PySem.W.isFn K (.ref f_hidden) = true)
    (l_hidden : K.lookup f_hidden = some ⟨oc_hidden, od_hidden, .func (PySem.W.fnOf "hidden" "Sizes.hidden" (defArgs s_Sizes_hidden) (defBody s_Sizes_hidden) (defScope s_Sizes_hidden) .none kV_hidden dc_hidden pm_hidden an_hidden cd_hidden ct_hidden), sl_hidden⟩)
    (c_hidden : PySem.W.codeIn K cd_hidden "Sizes.hidden" = true)
    (k_hidden : PySem.W.keepIn K (.ref f_hidden) = true)
    {f_ahead : Addr} {od_ahead an_ahead : Option Addr} {sl_ahead : Array (Option Value)} {oc_ahead dc_ahead pm_ahead cd_ahead ct_ahead kV_ahead : Value}
    (a_ahead : PySem.W.findIn K (.ref C) "ahead" = some (some (.ref f_ahead)))
    (i_ahead : PySem.W.isFn K (.ref f_ahead) = true)
    (l_ahead : K.lookup f_ahead = some ⟨oc_ahead, od_ahead, .func (PySem.W.fnOf "ahead" "Sizes.ahead" (defArgs s_Sizes_ahead) (defBody s_Sizes_ahead) (defScope s_Sizes_ahead) .none kV_ahead dc_ahead pm_ahead an_ahead cd_ahead ct_ahead), sl_ahead⟩)
    (c_ahead : PySem.W.codeIn K cd_ahead "Sizes.ahead" = true)
    (k_ahead : PySem.W.keepIn K (.ref f_ahead) = true)
    {f_total : Addr} {od_total an_total : Option Addr} {sl_total : Array (Option Value)} {oc_total dc_total pm_total cd_total ct_total kV_total : Value}
    (a_total : PySem.W.findIn K (.ref C) "total" = some (some (.ref f_total)))
    (i_total : PySem.W.isFn K (.ref f_total) = true)
    (l_total : K.lookup f_total = some ⟨oc_total, od_total, .func (PySem.W.fnOf "total" "Sizes.total" (defArgs s_Sizes_total) (defBody s_Sizes_total) (defScope s_Sizes_total) .none kV_total dc_total pm_total an_total cd_total ct_total), sl_total⟩)
    (c_total : PySem.W.codeIn K cd_total "Sizes.total" = true)
    (k_total : PySem.W.keepIn K (.ref f_total) = true)
    {f_at : Addr} {od_at an_at : Option Addr} {sl_at : Array (Option Value)} {oc_at dc_at pm_at cd_at ct_at kV_at : Value}
    (a_at : PySem.W.findIn K (.ref C) "at" = some (some (.ref f_at)))
    (i_at : PySem.W.isFn K (.ref f_at) = true)
    (l_at : K.lookup f_at = some ⟨oc_at, od_at, .func (PySem.W.fnOf "at" "Sizes.at" (defArgs s_Sizes_at) (defBody s_Sizes_at) (defScope s_Sizes_at) .none kV_at dc_at pm_at an_at cd_at ct_at), sl_at⟩)
    (c_at : PySem.W.codeIn K cd_at "Sizes.at" = true)
    (k_at : PySem.W.keepIn K (.ref f_at) = true)
    {f_keep : Addr} {od_keep an_keep : Option Addr} {sl_keep : Array (Option Value)} {oc_keep dc_keep pm_keep cd_keep ct_keep kV_keep : Value}
    (a_keep : PySem.W.findIn K (.ref C) "keep" = some (some (.ref f_keep)))
    (i_keep : PySem.W.isFn K (.ref f_keep) = true)
    (l_keep : K.lookup f_keep = some ⟨oc_keep, od_keep, .func (PySem.W.fnOf "keep" "Sizes.keep" (defArgs s_Sizes_keep) (defBody s_Sizes_keep) (defScope s_Sizes_keep) .none kV_keep dc_keep pm_keep an_keep cd_keep ct_keep), sl_keep⟩)
    (c_keep : PySem.W.codeIn K cd_keep "Sizes.keep" = true)
    (k_keep : PySem.W.keepIn K (.ref f_keep) = true)
    {f_give : Addr} {od_give an_give : Option Addr} {sl_give : Array (Option Value)} {oc_give dc_give pm_give cd_give ct_give kV_give : Value}
    (a_give : PySem.W.findIn K (.ref C) "give" = some (some (.ref f_give)))
    (i_give : PySem.W.isFn K (.ref f_give) = true)
    (l_give : K.lookup f_give = some ⟨oc_give, od_give, .func (PySem.W.fnOf "give" "Sizes.give" (defArgs s_Sizes_give) (defBody s_Sizes_give) (defScope s_Sizes_give) .none kV_give dc_give pm_give an_give cd_give ct_give), sl_give⟩)
    (c_give : PySem.W.codeIn K cd_give "Sizes.give" = true)
    (k_give : PySem.W.keepIn K (.ref f_give) = true)
    {f_hide : Addr} {od_hide an_hide : Option Addr} {sl_hide : Array (Option Value)} {oc_hide dc_hide pm_hide cd_hide ct_hide kV_hide : Value}
    (a_hide : PySem.W.findIn K (.ref C) "hide" = some (some (.ref f_hide)))
    (i_hide : PySem.W.isFn K (.ref f_hide) = true)
    (l_hide : K.lookup f_hide = some ⟨oc_hide, od_hide, .func (PySem.W.fnOf "hide" "Sizes.hide" (defArgs s_Sizes_hide) (defBody s_Sizes_hide) (defScope s_Sizes_hide) .none kV_hide dc_hide pm_hide an_hide cd_hide ct_hide), sl_hide⟩)
    (c_hide : PySem.W.codeIn K cd_hide "Sizes.hide" = true)
    (k_hide : PySem.W.keepIn K (.ref f_hide) = true)
    {f_init : Addr} {od_init an_init : Option Addr} {sl_init : Array (Option Value)} {oc_init dc_init pm_init cd_init ct_init : Value}
    (a_init : PySem.W.findIn K (.ref C) "__init__" = some (some (.ref f_init)))
    (i_init : PySem.W.isFn K (.ref f_init) = true)
    (l_init : K.lookup f_init = some ⟨oc_init, od_init, .func (PySem.W.fnOf "__init__" "Sizes.__init__" (defArgs s_Sizes_init) (defBody s_Sizes_init) (defScope s_Sizes_init) .none kV_init dc_init pm_init an_init cd_init ct_init), sl_init⟩)
    (c_init : PySem.W.codeIn K cd_init "Sizes.__init__" = true)
    (k_init : PySem.W.keepIn K (.ref f_init) = true)
    (z_max : PySem.W.nsIn K mainGlobals "max" = some none)
    (z_min : PySem.W.nsIn K mainGlobals "min" = some none)
    (z_len : PySem.W.nsIn K mainGlobals "len" = some none)
    (z_list : PySem.W.nsIn K mainGlobals "list" = some none)
    (z_isinstance : PySem.W.nsIn K mainGlobals "isinstance" = some none)
    (z_bool : PySem.W.nsIn K mainGlobals "bool" = some none)
    (z_int : PySem.W.nsIn K mainGlobals "int" = some none)
    (z_str : PySem.W.nsIn K mainGlobals "str" = some none)
    (z_tuple : PySem.W.nsIn K mainGlobals "tuple" = some none)
    (z_range : PySem.W.nsIn K mainGlobals "range" = some none)
    (z_all : PySem.W.nsIn K mainGlobals "all" = some none)
    (z_sum : PySem.W.nsIn K mainGlobals "sum" = some none)
    (z_sorted : PySem.W.nsIn K mainGlobals "sorted" = some none)
    (z_any : PySem.W.nsIn K mainGlobals "any" = some none)
    (z_dict : PySem.W.nsIn K mainGlobals "dict" = some none)
    (z_repr : PySem.W.nsIn K mainGlobals "repr" = some none)
    (z_IndexError : PySem.W.nsIn K mainGlobals "IndexError" = some none)
    (g_GREATEST_SIZE : PySem.W.nsIn K mainGlobals "GREATEST_SIZE" = some (some (.int 60 tG)))
    (g_MOST_THINGS : PySem.W.nsIn K mainGlobals "MOST_THINGS" = some (some (.int 1000000 tM)))
    (g_MOST_ODD : PySem.W.nsIn K mainGlobals "MOST_ODD" = some (some (.int 60 tQ)))
    (p_Sizes : PySem.W.plainGet K C Str.empty = true)
    (hd_Sizes : PySem.W.hasDictIn K C = true)
    (po_Sizes : PySem.W.plainOver K C = true)
    (sa_Sizes : PySem.W.findIn K (.ref C) "__setattr__" = some (some (.builtin "object.__setattr__")))
    (n_Sizes_many : PySem.W.findIn K (.ref C) "many" = some none)
    (n_Sizes_common : PySem.W.findIn K (.ref C) "common" = some none)
    (n_Sizes_odd : PySem.W.findIn K (.ref C) "odd" = some none)
    (g_Sizes : PySem.W.nsIn K mainGlobals "Sizes" = some (some (.ref C)))
    (mk_Sizes : PySem.W.makesIn K C = true)
    (kc_Sizes : PySem.W.keepIn K (.ref C) = true)
    (ia_Sizes : PySem.W.findIn K (.ref C) "__class__" = some (some (.builtin "object.__class__")))
    (io : PySem.W.specialIn K (.builtin "object.__class__") "__get__" = some (some (.builtin "getset_descriptor.__get__")))
    (it : PySem.W.takesIn K (.builtin "object.__class__") = some true)
    (im_Sizes : PySem.W.mroIn K C (.type "object") = some true)
    (e_NoIndex : PySem.W.nsIn K mainGlobals "NoIndex" = some (some (.ref cN)))
    (ex_NoIndex : PySem.W.excIn K cN ieL "IndexError.__new__" = true)
    (ek_NoIndex : PySem.W.keepIn K (.ref cN) = true)
    (eb_NoIndex : PySem.W.subIn K (.ref cN) (.type "BaseException") = some true)
    (et_NoIndex : PySem.W.typeIn K (.ref cN) = some (.type "type"))
    (ec_NoIndex : PySem.W.isClsIn K cN = true)
    (es_NoIndex : PySem.W.subIn K (.ref cN) (.ref cN) = some true)
    (e_BadMany : PySem.W.nsIn K mainGlobals "BadMany" = some (some (.ref cM)))
    (ex_BadMany : PySem.W.excIn K cM veL "ValueError.__new__" = true)
    (ek_BadMany : PySem.W.keepIn K (.ref cM) = true)
    (eb_BadMany : PySem.W.subIn K (.ref cM) (.type "BaseException") = some true)
    (et_BadMany : PySem.W.typeIn K (.ref cM) = some (.type "type"))
    (ec_BadMany : PySem.W.isClsIn K cM = true)
    (es_BadMany : PySem.W.subIn K (.ref cM) (.ref cM) = some true)
    (e_BadSize : PySem.W.nsIn K mainGlobals "BadSize" = some (some (.ref cS)))
    (ex_BadSize : PySem.W.excIn K cS veL "ValueError.__new__" = true)
    (ek_BadSize : PySem.W.keepIn K (.ref cS) = true)
    (eb_BadSize : PySem.W.subIn K (.ref cS) (.type "BaseException") = some true)
    (et_BadSize : PySem.W.typeIn K (.ref cS) = some (.type "type"))
    (ec_BadSize : PySem.W.isClsIn K cS = true)
    (es_BadSize : PySem.W.subIn K (.ref cS) (.ref cS) = some true)
    (e_NoPoint : PySem.W.nsIn K mainGlobals "NoPoint" = some (some (.ref cP)))
    (ex_NoPoint : PySem.W.excIn K cP ieL "IndexError.__new__" = true)
    (ek_NoPoint : PySem.W.keepIn K (.ref cP) = true)
    (eb_NoPoint : PySem.W.subIn K (.ref cP) (.type "BaseException") = some true)
    (et_NoPoint : PySem.W.typeIn K (.ref cP) = some (.type "type"))
    (ec_NoPoint : PySem.W.isClsIn K cP = true)
    (es_NoPoint : PySem.W.subIn K (.ref cP) (.ref cP) = some true)
    (e_Full : PySem.W.nsIn K mainGlobals "Full" = some (some (.ref cF)))
    (ex_Full : PySem.W.excIn K cF veL "ValueError.__new__" = true)
    (ek_Full : PySem.W.keepIn K (.ref cF) = true)
    (eb_Full : PySem.W.subIn K (.ref cF) (.type "BaseException") = some true)
    (et_Full : PySem.W.typeIn K (.ref cF) = some (.type "type"))
    (ec_Full : PySem.W.isClsIn K cF = true)
    (es_Full : PySem.W.subIn K (.ref cF) (.ref cF) = some true)
    (e_Beyond : PySem.W.nsIn K mainGlobals "Beyond" = some (some (.ref cB)))
    (ex_Beyond : PySem.W.excIn K cB ieL "IndexError.__new__" = true)
    (ek_Beyond : PySem.W.keepIn K (.ref cB) = true)
    (eb_Beyond : PySem.W.subIn K (.ref cB) (.type "BaseException") = some true)
    (et_Beyond : PySem.W.typeIn K (.ref cB) = some (.type "type"))
    (ec_Beyond : PySem.W.isClsIn K cB = true)
    (es_Beyond : PySem.W.subIn K (.ref cB) (.ref cB) = some true)
    (xg_NoPoint : PySem.W.findIn K (.ref cP) "__getattribute__" = some (some (.builtin "BaseException.__getattribute__")))
    (xk_NoPoint : PySem.W.findIn K (.ref cP) "__getattr__" = some none)
    (xd_NoPoint : PySem.W.hasDictIn K cP = true)
    (xc_NoPoint : PySem.W.findIn K (.ref cP) "__class__" = some (some (.builtin "object.__class__")))
    (xm_NoPoint : PySem.W.mroIn K cP (.type "object") = some true)
    (u1 : PySem.W.subIn K (.ref cP) (.ref cB) = some true)
    (u2 : PySem.W.subIn K (.ref cP) (.type "IndexError") = some true)
    : ∃ fd : FuncData, (∀ (s : Shared) (v : Value), BindsTo s fd ⟨[v], []⟩ [("_law_script", v)]) ∧ ∀ base : Heap, K.In base → base.Ns mainGlobals mg → FnOk l.prog w K mg base CX0 8 fa fd ["_law_script"] (spLaw K) := by
  have e := hfa.symm.trans (PySem.W.mg_of X G a_law)
  cases e
  have T : Tx K mg C cN cP cM cS cF tG tM tG tG tQ := ⟨PySem.W.mg_none_of X G z_max, PySem.W.mg_none_of X G z_min, PySem.W.mg_none_of X G z_len, PySem.W.mg_none_of X G z_list, PySem.W.mg_none_of X G z_isinstance, PySem.W.mg_none_of X G z_bool, PySem.W.mg_none_of X G z_int, PySem.W.mg_none_of X G z_str, PySem.W.mg_none_of X G z_tuple, PySem.W.mg_none_of X G z_range, PySem.W.mg_none_of X G z_all, PySem.W.mg_none_of X G z_sum, PySem.W.mg_none_of X G z_sorted, PySem.W.mg_none_of X G z_any, PySem.W.mg_none_of X G z_dict, PySem.W.mg_none_of X G z_repr, PySem.W.mg_of X G g_GREATEST_SIZE, PySem.W.mg_of X G g_MOST_THINGS, ⟨p_Sizes, hd_Sizes, po_Sizes, sa_Sizes⟩, n_Sizes_many, n_Sizes_common, n_Sizes_odd, PySem.W.mg_of X G g_Sizes, ⟨⟨p_Sizes, hd_Sizes, po_Sizes, sa_Sizes⟩, ia_Sizes, io, it, im_Sizes, kit_same⟩, ⟨PySem.W.mg_of X G e_NoIndex, ex_NoIndex, ek_NoIndex, eb_NoIndex, et_NoIndex, ec_NoIndex, es_NoIndex⟩, ⟨PySem.W.mg_of X G e_BadMany, ex_BadMany, ek_BadMany, eb_BadMany, et_BadMany, ec_BadMany, es_BadMany⟩, ⟨PySem.W.mg_of X G e_BadSize, ex_BadSize, ek_BadSize, eb_BadSize, et_BadSize, ec_BadSize, es_BadSize⟩, ⟨PySem.W.mg_of X G e_NoPoint, ex_NoPoint, ek_NoPoint, eb_NoPoint, et_NoPoint, ec_NoPoint, es_NoPoint⟩, ⟨PySem.W.mg_of X G e_Full, ex_Full, ek_Full, eb_Full, et_Full, ec_Full, es_Full⟩, PySem.W.mg_of X G g_MOST_ODD⟩
  have F_begin := fun_mk (st := s_begin) l_begin c_begin k_begin
  have b_begin := F_begin.binds (ps := ["_law_script"]) fun _ _ _ _ _ _ us hl => match us, hl with | [_], _ => rfl
  have m_begin := PySem.W.mg_of X G a_begin
  have F_pick := fun_mk (st := s_pick) l_pick c_pick k_pick
  have b_pick := F_pick.binds (ps := ["_law_draw", "_law_many"]) fun _ _ _ _ _ _ us hl => match us, hl with | [_, _], _ => rfl
  have m_pick := PySem.W.mg_of X G a_pick
  have F_far := fun_mk (st := s_far) l_far c_far k_far
  have b_far := F_far.binds (ps := ["_law_draw"]) fun _ _ _ _ _ _ us hl => match us, hl with | [_], _ => rfl
  have m_far := PySem.W.mg_of X G a_far
  have F_check_size := fun_mk (st := s_check_size) l_check_size c_check_size k_check_size
  have b_check_size := F_check_size.binds (ps := ["size"]) fun _ _ _ _ _ _ us hl => match us, hl with | [_], _ => rfl
  have m_check_size := PySem.W.mg_of X G a_check_size
  have F_check_number := fun_mk (st := s_check_number) l_check_number c_check_number k_check_number
  have b_check_number := F_check_number.binds (ps := ["number", "count"]) fun _ _ _ _ _ _ us hl => match us, hl with | [_, _], _ => rfl
  have m_check_number := PySem.W.mg_of X G a_check_number
  have F_z_size := fun_mk (st := s_z_size) l_z_size c_z_size k_z_size
  have b_z_size := F_z_size.binds (ps := ["_law_z_here", "_law_k"]) fun _ _ _ _ _ _ us hl => match us, hl with | [_, _], _ => rfl
  have m_z_size := PySem.W.mg_of X G a_z_size
  have F_same := fun_mk (st := s_same) l_same c_same k_same
  have b_same := F_same.binds (ps := ["_law_found", "_law_due"]) fun _ _ _ _ _ _ us hl => match us, hl with | [_, _], _ => rfl
  have m_same := PySem.W.mg_of X G a_same
  have F_z := fun_mk (st := s_z) l_z c_z k_z
  have b_z := F_z.binds (ps := ["_law_many", "_law_usual"]) fun _ _ _ _ _ _ us hl => match us, hl with | [_, _], _ => rfl
  have m_z := PySem.W.mg_of X G a_z
  have F_z_with := fun_mk (st := s_z_with) l_z_with c_z_with k_z_with
  have b_z_with := F_z_with.binds (ps := ["_law_z_here", "_law_k", "_law_size", "_law_hidden"]) fun _ _ _ _ _ _ us hl => match us, hl with | [_, _, _, _], _ => rfl
  have m_z_with := PySem.W.mg_of X G a_z_with
  have F_z_set := fun_mk (st := s_z_set) l_z_set c_z_set k_z_set
  have b_z_set := F_z_set.binds (ps := ["_law_z_here", "_law_k", "_law_size"]) fun _ _ _ _ _ _ us hl => match us, hl with | [_, _, _], _ => rfl
  have m_z_set := PySem.W.mg_of X G a_z_set
  have F_z_hide := fun_mk (st := s_z_hide) l_z_hide c_z_hide k_z_hide
  have b_z_hide := F_z_hide.binds (ps := ["_law_z_here", "_law_k", "_law_hidden"]) fun _ _ _ _ _ _ us hl => match us, hl with | [_, _, _], _ => rfl
  have m_z_hide := PySem.W.mg_of X G a_z_hide
  have F_told := fun_mk (st := s_told) l_told c_told k_told
  have b_told := F_told.binds (ps := ["_law_sizes", "_law_point"]) fun _ _ _ _ _ _ us hl => match us, hl with | [_, _], _ => rfl
  have m_told := PySem.W.mg_of X G a_told
  have F_law := fun_mk (st := s_law) l_law c_law k_law
  have F_state := fun_mk (st := s_Sizes_state) l_state c_state k_state
  have b_state := F_state.binds (ps := ["self", "number"]) fun _ _ _ _ _ _ us hl => match us, hl with | [_, _], _ => rfl
  have me_state : Meth K C "state" f_state := ⟨a_state, i_state, k_state⟩
  have F_size := fun_mk (st := s_Sizes_size) l_size c_size k_size
  have b_size := F_size.binds (ps := ["self", "number"]) fun _ _ _ _ _ _ us hl => match us, hl with | [_, _], _ => rfl
  have me_size : Meth K C "size" f_size := ⟨a_size, i_size, k_size⟩
  have F_own := fun_mk (st := s_Sizes_own) l_own c_own k_own
  have b_own := F_own.binds (ps := ["self", "number"]) fun _ _ _ _ _ _ us hl => match us, hl with | [_, _], _ => rfl
  have me_own : Meth K C "own" f_own := ⟨a_own, i_own, k_own⟩
  have F_hidden := fun_mk (st := s_Sizes_hidden) l_hidden c_hidden k_hidden
  have b_hidden := F_hidden.binds (ps := ["self", "number"]) fun _ _ _ _ _ _ us hl => match us, hl with | [_, _], _ => rfl
  have me_hidden : Meth K C "hidden" f_hidden := ⟨a_hidden, i_hidden, k_hidden⟩
  have F_ahead := fun_mk (st := s_Sizes_ahead) l_ahead c_ahead k_ahead
  have b_ahead := F_ahead.binds (ps := ["self", "number"]) fun _ _ _ _ _ _ us hl => match us, hl with | [_, _], _ => rfl
  have me_ahead : Meth K C "ahead" f_ahead := ⟨a_ahead, i_ahead, k_ahead⟩
  have F_total := fun_mk (st := s_Sizes_total) l_total c_total k_total
  have b_total := F_total.binds (ps := ["self"]) fun _ _ _ _ _ _ us hl => match us, hl with | [_], _ => rfl
  have me_total : Meth K C "total" f_total := ⟨a_total, i_total, k_total⟩
  have F_at := fun_mk (st := s_Sizes_at) l_at c_at k_at
  have b_at := F_at.binds (ps := ["self", "point"]) fun _ _ _ _ _ _ us hl => match us, hl with | [_, _], _ => rfl
  have me_at : Meth K C "at" f_at := ⟨a_at, i_at, k_at⟩
  have F_keep := fun_mk (st := s_Sizes_keep) l_keep c_keep k_keep
  have b_keep := F_keep.binds (ps := ["self", "number", "own", "hidden"]) fun _ _ _ _ _ _ us hl => match us, hl with | [_, _, _, _], _ => rfl
  have me_keep : Meth K C "keep" f_keep := ⟨a_keep, i_keep, k_keep⟩
  have F_give := fun_mk (st := s_Sizes_give) l_give c_give k_give
  have b_give := F_give.binds (ps := ["self", "number", "size"]) fun _ _ _ _ _ _ us hl => match us, hl with | [_, _, _], _ => rfl
  have me_give : Meth K C "give" f_give := ⟨a_give, i_give, k_give⟩
  have F_hide := fun_mk (st := s_Sizes_hide) l_hide c_hide k_hide
  have b_hide := F_hide.binds (ps := ["self", "number"]) fun _ _ _ _ _ _ us hl => match us, hl with | [_, _], _ => rfl
  have me_hide : Meth K C "hide" f_hide := ⟨a_hide, i_hide, k_hide⟩
  have F_init := fun_mk (st := s_Sizes_init) l_init c_init k_init
  refine ⟨PySem.W.fnOf "law" "law" (defArgs s_law) (defBody s_law) (defScope s_law) .none kV_law dc_law pm_law an_law cd_law ct_law, fun s v => .of_eq rfl, fun base _ _ => ?_⟩
  have T3 : Tx3 K mg cP cB := ⟨⟨PySem.W.mg_of X G e_Beyond, ex_Beyond, ek_Beyond, eb_Beyond, et_Beyond, ec_Beyond, es_Beyond⟩, PySem.W.mg_none_of X G z_IndexError, u1, u2, ⟨xg_NoPoint, xk_NoPoint, eb_NoPoint, xd_NoPoint, xc_NoPoint, io, it, xm_NoPoint⟩⟩
  have D_begin : Dn l.prog w K mg base CX0 1 "_law_begin" ["_law_script"] (spBegin K) := ⟨_, _, ok_begin F_begin T, m_begin, k_begin, b_begin⟩
  have D_pick : Dn l.prog w K mg base CX0 1 "_law_pick" ["_law_draw", "_law_many"] spPick := ⟨_, _, ok_pick F_pick T, m_pick, k_pick, b_pick⟩
  have D_far : Dn l.prog w K mg base CX0 2 "_law_far" ["_law_draw"] spFar := ⟨_, _, ok_far F_far T D_pick, m_far, k_far, b_far⟩
  have D_check_size : Dn l.prog w K mg base (L2.CX l.prog w) 1 "check_size" ["size"] (spCS cS) := ⟨_, _, ok_cs F_check_size T, m_check_size, k_check_size, b_check_size⟩
  have D_check_number : Dn l.prog w K mg base (L2.CX l.prog w) 1 "check_number" ["number", "count"] (spNum cN) := ⟨_, _, ok_cn F_check_number T, m_check_number, k_check_number, b_check_number⟩
  have M_state : Mn l.prog w K mg base (L2.CX l.prog w) 2 C "state" ["self", "number"] (spState C cN) := ⟨_, _, ok_state F_state T D_check_number, me_state, b_state⟩
  have M_size : Mn l.prog w K mg base (L2.CX l.prog w) 3 C "size" ["self", "number"] (spSize C cN) := ⟨_, _, ok_size F_size T M_state, me_size, b_size⟩
  have M_own : Mn l.prog w K mg base (L2.CX l.prog w) 3 C "own" ["self", "number"] (spOwn C cN) := ⟨_, _, ok_own F_own T M_state, me_own, b_own⟩
  have M_hidden : Mn l.prog w K mg base (L2.CX l.prog w) 3 C "hidden" ["self", "number"] (spHid C cN) := ⟨_, _, ok_hidden F_hidden T M_state, me_hidden, b_hidden⟩
  have M_ahead : Mn l.prog w K mg base (L2.CX l.prog w) 4 C "ahead" ["self", "number"] (spAhead C cN) := ⟨_, _, ok_ahead F_ahead T D_check_number M_size, me_ahead, b_ahead⟩
  have M_total : Mn l.prog w K mg base CX0 5 C "total" ["self"] (spTotal C) := ⟨_, _, ok_total F_total T M_ahead, me_total, b_total⟩
  have M_at : Mn l.prog w K mg base (L2.CX l.prog w) 6 C "at" ["self", "point"] (spAt C cP) := ⟨_, _, ok_at F_at T M_size M_total, me_at, b_at⟩
  have M_keep : Mn l.prog w K mg base (L2.CX l.prog w) 1 C "keep" ["self", "number", "own", "hidden"] (spKeep C cF) := ⟨_, _, ok_keep F_keep T, me_keep, b_keep⟩
  have M_give : Mn l.prog w K mg base (L2.CX l.prog w) 4 C "give" ["self", "number", "size"] (spGive C cN cS cF) := ⟨_, _, ok_give F_give T D_check_size M_own M_hidden M_keep, me_give, b_give⟩
  have M_hide : Mn l.prog w K mg base (L2.CX l.prog w) 4 C "hide" ["self", "number"] (spTo C cN cF gHide) := ⟨_, _, ok_hide F_hide T M_own M_hidden M_keep, me_hide, b_hide⟩
  have D_z_size : Dn l.prog w K mg base CX0 1 "_law_z_size" ["_law_z_here", "_law_k"] spZsize := ⟨_, _, ok_z_size F_z_size T, m_z_size, k_z_size, b_z_size⟩
  have D_same := same_all (P := l.prog) (w := w) (base := base) F_same T b_same m_same k_same
  have D_z : Dn l.prog w K mg base CX0 1 "_law_z" ["_law_many", "_law_usual"] spZnew := ⟨_, _, ok_z F_z T, m_z, k_z, b_z⟩
  have D_z_with : Dn l.prog w K mg base CX0 1 "_law_z_with" ["_law_z_here", "_law_k", "_law_size", "_law_hidden"] spZwith := ⟨_, _, ok_z_with F_z_with T, m_z_with, k_z_with, b_z_with⟩
  have D_z_set : Dn l.prog w K mg base CX0 2 "_law_z_set" ["_law_z_here", "_law_k", "_law_size"] spZset := ⟨_, _, ok_z_set F_z_set T D_z_with, m_z_set, k_z_set, b_z_set⟩
  have D_z_hide : Dn l.prog w K mg base CX0 2 "_law_z_hide" ["_law_z_here", "_law_k", "_law_hidden"] spZhide := ⟨_, _, ok_z_hide F_z_hide T D_z_with, m_z_hide, k_z_hide, b_z_hide⟩
  have okI := ok_init (P := l.prog) (w := w) (base := base) F_init T D_check_size
  have mkI : Mk K C f_init := ⟨mk_Sizes, a_init, i_init, kc_Sizes⟩
  have D_Sizes : Cn l.prog w K mg base (L2.CX l.prog w) 2 C "Sizes" (spInit C cM cS) := ⟨_, _, okI, mkI, T.mgC, ⟨fun s us ws _ l1 l2 => .of_eq (match us, ws, l1, l2 with | [_, _], [_], _, _ => rfl), fun r1 r2 => Vals.append r1 r2⟩⟩
  have D_told : Dn l.prog w K mg base CX0 7 "_law_told" ["_law_sizes", "_law_point"] (spTold C) := ⟨_, _, ok_told F_told T T3 M_at, m_told, k_told, b_told⟩
  exact ok_law F_law T D_begin D_pick D_far (D_same 3) D_z D_z_size D_z_set D_z_hide D_told D_Sizes M_give M_hide
theorem walk {l : PySem.W.OpenLaw} {q : Program} {loose : List Str} {XP : (Str → Option Value) → Heap → Prop} {YP : World → Heap → Prop} {d : DefRec} {K : Params → PySem.W.Frag} (hn : l.most = some 63) (hdf : d.params.defaults = [])
    (hY : ∀ (w : World) (h : Heap), YP w h → (K w.params).In h)
    (F : ∀ (w : World) (mg : Str → Option Value) (fa : Addr) (h : Heap), (K w.params).In h → h.Ns mainGlobals mg → mg d.name = some (.ref fa) →
      ∃ fd : FuncData, (∀ (s : Shared) (u : Value), BindsTo s fd ⟨[u], []⟩ [("_law_script", u)]) ∧ ∀ base : Heap, (K w.params).In base → base.Ns mainGlobals mg → FnOk l.prog w (K w.params) mg base CX0 8 fa fd ["_law_script"] (spLaw (K w.params))) :
    PySem.W.WalkO q loose XP YP l.row.toRowW d [] (fun f vs => PySem.call f vs) :=
  L2.walk_of (n := 63) (k := 8) (x := "_law_script") (CX := fun _ => CX0) (sp := fun w => spLaw (K w.params)) hn (by decide) hdf ⟨rfl, by decide, by decide⟩ hY F (fun _ _ a ns hl _ hS => ⟨a, ns, rfl, hS, hl, fun _ => rfl⟩) fun _ _ _ _ _ z => z
end K03
open PySem PySem.W PyProof.Rows
set_option maxRecDepth 100000 in
set_option maxHeartbeats 0 in
theorem PySem.Challenge.cw_gridscope_k03_points_in_sizes_holds : PySem.Challenge.rw_gridscope_k03_points_in_sizes.Holds := by
  w_on; o_law; k_head; (case hw => w_witness2)
  k_fill
  refine K03.walk (l := PySem.Challenge.rw_gridscope_k03_points_in_sizes) rfl rfl (fun w h Y => PySem.W.kIn_of Y) ?F
  case F =>
    intro w mg fa h KX G hmg
    refine' K03.all_mk KX G hmg ?a_begin ?l_begin ?c_begin ?k_begin ?a_pick ?l_pick ?c_pick ?k_pick ?a_far ?l_far ?c_far ?k_far ?a_check_size ?l_check_size ?c_check_size ?k_check_size ?a_check_number ?l_check_number ?c_check_number ?k_check_number ?a_z_size ?l_z_size ?c_z_size ?k_z_size ?a_same ?l_same ?c_same ?k_same ?a_z ?l_z ?c_z ?k_z ?a_z_with ?l_z_with ?c_z_with ?k_z_with ?a_z_set ?l_z_set ?c_z_set ?k_z_set ?a_z_hide ?l_z_hide ?c_z_hide ?k_z_hide ?a_told ?l_told ?c_told ?k_told ?a_law ?l_law ?c_law ?k_law ?a_state ?i_state ?l_state ?c_state ?k_state ?a_size ?i_size ?l_size ?c_size ?k_size ?a_own ?i_own ?l_own ?c_own ?k_own ?a_hidden ?i_hidden ?l_hidden ?c_hidden ?k_hidden ?a_ahead ?i_ahead ?l_ahead ?c_ahead ?k_ahead ?a_total ?i_total ?l_total ?c_total ?k_total ?a_at ?i_at ?l_at ?c_at ?k_at ?a_keep ?i_keep ?l_keep ?c_keep ?k_keep ?a_give ?i_give ?l_give ?c_give ?k_give ?a_hide ?i_hide ?l_hide ?c_hide ?k_hide ?a_init ?i_init ?l_init ?c_init ?k_init ?z_max ?z_min ?z_len ?z_list ?z_isinstance ?z_bool ?z_int ?z_str ?z_tuple ?z_range ?z_all ?z_sum ?z_sorted ?z_any ?z_dict ?z_repr ?z_IndexError ?g_GREATEST_SIZE ?g_MOST_THINGS ?g_MOST_ODD ?p_Sizes ?hd_Sizes ?po_Sizes ?sa_Sizes ?n_Sizes_many ?n_Sizes_common ?n_Sizes_odd ?g_Sizes ?mk_Sizes ?kc_Sizes ?ia_Sizes ?io ?it ?im_Sizes ?e_NoIndex ?ex_NoIndex ?ek_NoIndex ?eb_NoIndex ?et_NoIndex ?ec_NoIndex ?es_NoIndex ?e_BadMany ?ex_BadMany ?ek_BadMany ?eb_BadMany ?et_BadMany ?ec_BadMany ?es_BadMany ?e_BadSize ?ex_BadSize ?ek_BadSize ?eb_BadSize ?et_BadSize ?ec_BadSize ?es_BadSize ?e_NoPoint ?ex_NoPoint ?ek_NoPoint ?eb_NoPoint ?et_NoPoint ?ec_NoPoint ?es_NoPoint ?e_Full ?ex_Full ?ek_Full ?eb_Full ?et_Full ?ec_Full ?es_Full ?e_Beyond ?ex_Beyond ?ek_Beyond ?eb_Beyond ?et_Beyond ?ec_Beyond ?es_Beyond ?xg_NoPoint ?xk_NoPoint ?xd_NoPoint ?xc_NoPoint ?xm_NoPoint ?u1 ?u2
    (case a_begin => k_is); (case a_pick => k_is); (case a_far => k_is); (case a_check_size => k_is); (case a_check_number => k_is); (case a_z_size => k_is)
    (case a_same => k_is); (case a_z => k_is); (case a_z_with => k_is); (case a_z_set => k_is); (case a_z_hide => k_is); (case a_told => k_is)
    (case a_law => k_is); (case z_max => k_is); (case z_min => k_is); (case z_len => k_is); (case z_list => k_is); (case z_isinstance => k_is)
    (case z_bool => k_is); (case z_int => k_is); (case z_str => k_is); (case z_tuple => k_is); (case z_range => k_is); (case z_all => k_is)
    (case z_sum => k_is); (case z_sorted => k_is); (case z_any => k_is); (case z_dict => k_is); (case z_repr => k_is); (case z_IndexError => k_is)
    (case g_GREATEST_SIZE => k_is); (case g_MOST_THINGS => k_is); (case g_MOST_ODD => k_is); (case g_Sizes => k_is); (case e_NoIndex => k_is); (case e_BadMany => k_is)
    (case e_BadSize => k_is); (case e_NoPoint => k_is); (case e_Full => k_is); (case e_Beyond => k_is); (case l_begin => k_is); (case c_begin => k_is)
    (case k_begin => k_is); (case l_pick => k_is); (case c_pick => k_is); (case k_pick => k_is); (case l_far => k_is); (case c_far => k_is)
    (case k_far => k_is); (case l_check_size => k_is); (case c_check_size => k_is); (case k_check_size => k_is); (case l_check_number => k_is); (case c_check_number => k_is)
    (case k_check_number => k_is); (case l_z_size => k_is); (case c_z_size => k_is); (case k_z_size => k_is); (case l_same => k_is); (case c_same => k_is)
    (case k_same => k_is); (case l_z => k_is); (case c_z => k_is); (case k_z => k_is); (case l_z_with => k_is); (case c_z_with => k_is)
    (case k_z_with => k_is); (case l_z_set => k_is); (case c_z_set => k_is); (case k_z_set => k_is); (case l_z_hide => k_is); (case c_z_hide => k_is)
    (case k_z_hide => k_is); (case l_told => k_is); (case c_told => k_is); (case k_told => k_is); (case l_law => k_is); (case c_law => k_is)
    (case k_law => k_is); (case a_state => k_is); (case i_state => k_is); (case l_state => k_is); (case c_state => k_is); (case k_state => k_is)
    (case a_size => k_is); (case i_size => k_is); (case l_size => k_is); (case c_size => k_is); (case k_size => k_is); (case a_own => k_is)
    (case i_own => k_is); (case l_own => k_is); (case c_own => k_is); (case k_own => k_is); (case a_hidden => k_is); (case i_hidden => k_is)
    (case l_hidden => k_is); (case c_hidden => k_is); (case k_hidden => k_is); (case a_ahead => k_is); (case i_ahead => k_is); (case l_ahead => k_is)
    (case c_ahead => k_is); (case k_ahead => k_is); (case a_total => k_is); (case i_total => k_is); (case l_total => k_is); (case c_total => k_is)
    (case k_total => k_is); (case a_at => k_is); (case i_at => k_is); (case l_at => k_is); (case c_at => k_is); (case k_at => k_is)
    (case a_keep => k_is); (case i_keep => k_is); (case l_keep => k_is); (case c_keep => k_is); (case k_keep => k_is); (case a_give => k_is)
    (case i_give => k_is); (case l_give => k_is); (case c_give => k_is); (case k_give => k_is); (case a_hide => k_is); (case i_hide => k_is)
    (case l_hide => k_is); (case c_hide => k_is); (case k_hide => k_is); (case a_init => k_is); (case i_init => k_is); (case l_init => k_is)
    (case c_init => k_is); (case k_init => k_is); (case p_Sizes => k_is); (case hd_Sizes => k_is); (case po_Sizes => k_is); (case sa_Sizes => k_is)
    (case n_Sizes_many => k_is); (case n_Sizes_common => k_is); (case n_Sizes_odd => k_is); (case mk_Sizes => k_is); (case kc_Sizes => k_is); (case ia_Sizes => k_is)
    (case io => k_is); (case it => k_is); (case im_Sizes => k_is); (case ex_NoIndex => k_exc); (case ek_NoIndex => k_is); (case eb_NoIndex => k_is)
    (case et_NoIndex => k_is); (case ec_NoIndex => k_is); (case es_NoIndex => k_is); (case ex_BadMany => k_exc); (case ek_BadMany => k_is); (case eb_BadMany => k_is)
    (case et_BadMany => k_is); (case ec_BadMany => k_is); (case es_BadMany => k_is); (case ex_BadSize => k_exc); (case ek_BadSize => k_is); (case eb_BadSize => k_is)
    (case et_BadSize => k_is); (case ec_BadSize => k_is); (case es_BadSize => k_is); (case ex_NoPoint => k_exc); (case ek_NoPoint => k_is); (case eb_NoPoint => k_is)
    (case et_NoPoint => k_is); (case ec_NoPoint => k_is); (case es_NoPoint => k_is); (case ex_Full => k_exc); (case ek_Full => k_is); (case eb_Full => k_is)
    (case et_Full => k_is); (case ec_Full => k_is); (case es_Full => k_is); (case ex_Beyond => k_exc); (case ek_Beyond => k_is); (case eb_Beyond => k_is)
    (case et_Beyond => k_is); (case ec_Beyond => k_is); (case es_Beyond => k_is); (case xg_NoPoint => k_is); (case xk_NoPoint => k_is); (case xd_NoPoint => k_is)
    (case xc_NoPoint => k_is); (case xm_NoPoint => k_is); (case u1 => k_is); (case u2 => k_is)
