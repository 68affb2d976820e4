import PyProof.Rows.All
import Wide.All
import OpenK.AllK
import Wide.FinOn
import HandS.ForMost
import HandS.Deep
import HandS.IsInst
import HandS.Codes
import HandS.ForExc
import HandS.RaiseMore
import HandS.FStr
import HandS.More
import HandS.Walk
import HandS.MakeKwOnly
import HandS.ExcIs
import HandS.OwnEq
import PySem.Challenge.RW_gridscope_k01_rows_of_sizes_begun
set_option Elab.async false
set_option linter.all false
set_option maxRecDepth 100000
set_option maxHeartbeats 4000000
namespace Gs
open PySem L2
/-! ### a def of the text, by its name, as its callers use it -/
def Dn (P : Program) (w : World) (K : PySem.W.Frag) (mg : Str → Option Value) (base : Heap) (CX : CXT) (k : Nat) (x : Str) (ps : List Str) (sp : Sp) : Prop :=
  ∃ (f : Addr) (fd : FuncData), FnOk P w K mg base CX k f fd ps sp ∧ mg x = some (.ref f) ∧ PySem.W.keepIn K (.ref f) = true ∧ Binds K fd ps []
theorem Dn.mono {P : Program} {w : World} {K : PySem.W.Frag} {mg : Str → Option Value} {base : Heap} {CX : CXT} {j k : Nat} {x : Str} {ps : List Str} {sp : Sp} (D : Dn P w K mg base CX j x ps sp) (h : j ≤ k) : Dn P w K mg base CX k x ps sp := by
  obtain ⟨f, fd, F, m, kp, b⟩ := D
  exact ⟨f, fd, F.mono h, m, kp, b⟩
theorem Dn.imp {P : Program} {w : World} {K : PySem.W.Frag} {mg : Str → Option Value} {base : Heap} {CX : CXT} {k : Nat} {x : Str} {ps : List Str} {sp sp' : Sp} (D : Dn P w K mg base CX k x ps sp) (h : ∀ vs H Q E, sp' vs H Q E → sp vs H Q E) : Dn P w K mg base CX k x ps sp' := by
  obtain ⟨f, fd, F, m, kp, b⟩ := D
  exact ⟨f, fd, F.imp h, m, kp, b⟩
theorem pe_callD {X : Cx} {CX : CXT} {k : Nat} {x : Str} {ps : List Str} {sp : Sp} {E : XK} {p pos : Pos} {e : Expr} {es : List Expr} {t : TA} (D : Dn X.prog X.w X.K X.mg X.base CX k x ps sp) (hr : Room k X.A) (hg : Gl X x) (hx : Passes CX X E)
    (ha : PA X (e :: es) t) (hdb : (x == ("__debug__" : Str)) = false := by decide) (he : starEach (e :: es) X.env = (false, eval e X.env) :: starEach es X.env := by rfl) (hpl : (backTo pos (starEach es X.env)).any (·.1) = false := by rfl) :
    PE X (.Call (.Name x p) (e :: es) [] pos) (tCall sp [] E t) := by
  obtain ⟨f, fd, F, m, kp, b⟩ := D
  exact pe_call F hr hg m kp b .nil hx ha hdb he hpl
theorem pe_callSD {X : Cx} {CX : CXT} {k : Nat} {x : Str} {ps : List Str} {sp : Sp} {E : St → XK} {p pos : Pos} {e : Expr} {es : List Expr} {t : TA} (D : Dn X.prog X.w X.K X.mg X.base CX k x ps sp) (hr : Room k X.A) (hg : Gl X x) (hx : ∀ σ, PassesAt CX X σ (E σ))
    (ha : PA X (e :: es) t) (hdb : (x == ("__debug__" : Str)) = false := by decide) (he : starEach (e :: es) X.env = (false, eval e X.env) :: starEach es X.env := by rfl) (hpl : (backTo pos (starEach es X.env)).any (·.1) = false := by rfl) :
    PE X (.Call (.Name x p) (e :: es) [] pos) (tCallS sp E t) := by
  obtain ⟨f, fd, F, m, kp, b⟩ := D
  exact pe_callS F hr hg m kp b hx ha hdb he hpl
/-- what the top says of an own exception class without a method of its own -/
structure ExcOk (K : PySem.W.Frag) (mg : Str → Option Value) (x : Str) (C : Addr) (bm : List Value) (nid : String) : Prop where
  g : mg x = some (.ref C)
  ex : PySem.W.excIn K C bm nid = true
  kp : PySem.W.keepIn K (.ref C) = true
  b : PySem.W.subIn K (.ref C) (.type "BaseException") = some true
  t : PySem.W.typeIn K (.ref C) = some (.type "type")
  cl : PySem.W.isClsIn K C = true
  sf : PySem.W.subIn K (.ref C) (.ref C) = some true
theorem exm_own {K : PySem.W.Frag} {cls : Value} {C : Addr} {b : Bool} (hb : PySem.W.subIn K (.ref C) (.type "BaseException") = some true) (hc : PySem.W.isClsIn K C = true) (ht : PySem.W.typeIn K (.ref C) = some (.type "type")) (hs : PySem.W.subIn K cls (.ref C) = some b) : PySem.W.exmOne K cls (.ref C) = some b := by
  have h1 : PySem.W.kitCls K cls (.ref C) = some b := by
    show (if ((PySem.W.clsIn K C).isSome && PySem.W.typeIn K (.ref C) == some (.type "type")) = true then PySem.W.subIn K cls (.ref C) else none) = some b
    have h2 : (PySem.W.clsIn K C).isSome = true := hc
    rw [h2, ht, if_pos (by simp)]
    exact hs
  unfold PySem.W.exmOne
  rw [hb, if_pos (by simp)]
  exact h1
theorem ExcOk.me {K : PySem.W.Frag} {mg : Str → Option Value} {x : Str} {C : Addr} {bm : List Value} {nid : String} (e : ExcOk K mg x C bm nid) : PySem.W.exmOne K (.ref C) (.ref C) = some true := exm_own e.b e.cl e.t e.sf
abbrev ieL : List Value := [.type "IndexError", .type "LookupError", .type "Exception", .type "BaseException", .type "object"]
abbrev leL : List Value := [.type "LookupError", .type "Exception", .type "BaseException", .type "object"]
abbrev veL : List Value := [.type "ValueError", .type "Exception", .type "BaseException", .type "object"]
theorem glS {X : Cx} {x z : Str} {t : Tok} {pos : Pos} (hg : Gl X x) (hm : X.mg x = some (.str z t)) (hd : (x == ("__debug__" : Str)) = false := by decide) : PE X (.Name x pos) (tC (.str z)) := pe_glob hg hm ⟨t, rfl⟩ hd
theorem glI {X : Cx} {x : Str} {i : Int} {t : Tok} {pos : Pos} (hg : Gl X x) (hm : X.mg x = some (.int i t)) (hd : (x == ("__debug__" : Str)) = false := by decide) : PE X (.Name x pos) (tC (.int i)) := pe_glob hg hm ⟨t, rfl⟩ hd
/-! ### heaps -/
theorem same_new {H : Hp} {p : Addr} (h : H p = none) (o : HO) : Same H (upd H p o) := fun b u q => by rw [upd_ne (ne_of_none q h)]; exact q
theorem Same.tup {K : PySem.W.Frag} {H H' : Hp} {a : Addr} {xs : List V} (e : Same H H') (h : SqT K H a xs) : SqT K H' a xs := by
  rcases h with (h | ⟨o, h⟩) | h
  · exact .inl (.inl (e _ _ h))
  · exact .inl (.inr ⟨o, e _ _ h⟩)
  · exact .inr h
theorem small {n : Nat} (h : n ≤ 1000) : n ≤ sizeLine := Nat.le_of_lt (small1000 h)
/-! ### data at any depth -/
mutual
theorem dp_same {K : PySem.W.Frag} {H H' : Hp} (e : Same H H') : ∀ (d : PyData) (v : V), Dp K H v d → Dp K H' v d
  | .none, _, h => by cases h; exact .non
  | .bool b, _, h => by cases h; exact .bl b
  | .int i, _, h => by cases h; exact .int i
  | .str x, _, h => by cases h; exact .str x
  | .list ds, _, h => by
    cases h with
    | lst s a => exact .lst (e.seq s) (dpAll_same e ds _ a)
  | .tuple ds, _, h => by
    cases h with
    | tup s a => exact .tup (Same.tup e s) (dpAll_same e ds _ a)
  | .dict b, _, h => by cases h
theorem dpAll_same {K : PySem.W.Frag} {H H' : Hp} (e : Same H H') : ∀ (ds : List PyData) (vs : List V), DpAll K H vs ds → DpAll K H' vs ds
  | [], _, h => by cases h; exact .nil
  | d :: ds, _, h => by
    cases h with
    | cons a b => exact .cons (dp_same e d _ a) (dpAll_same e ds _ b)
end
theorem dpI {K : PySem.W.Frag} {H : Hp} {i j : Int} (e : i = j) : Dp K H (.int i) (.int j) := by subst e; exact .int _
theorem dpB {K : PySem.W.Frag} {H : Hp} {i j : Bool} (e : i = j) : Dp K H (.bl i) (.bool j) := by subst e; exact .bl _
theorem dpS {K : PySem.W.Frag} {H : Hp} {i j : Str} (e : i = j) : Dp K H (.str i) (.str j) := by subst e; exact .str _
theorem dpAll_len {K : PySem.W.Frag} {H : Hp} : ∀ {vs : List V} {ds : List PyData}, DpAll K H vs ds → vs.length = ds.length
  | _, _, .nil => rfl
  | _, _, .cons _ b => by simp [dpAll_len b]
theorem dpAll_get {K : PySem.W.Frag} {H : Hp} : ∀ {vs : List V} {ds : List PyData} {i : Nat} {d : PyData}, DpAll K H vs ds → ds[i]? = some d → ∃ v, vs[i]? = some v ∧ Dp K H v d
  | _, _, _, _, .nil, e => by simp at e
  | _, _, 0, _, .cons a _, e => by simp at e; subst e; exact ⟨_, rfl, a⟩
  | _, _, i + 1, _, .cons _ b, e => by simpa using dpAll_get (i := i) b (by simpa using e)

/-! ### the law's own helpers: what each of them promises -/
/-- a draw: what is left of the script, its place, what is left of a great number, the seed, the count -/
def drawO (l : Addr) (i left seed n : Int) : HO := .lst [.ref l, .int i, .int left, .int seed, .int n]
def DrawAt (H : Hp) (a : Addr) : Prop := ∃ (l : Addr) (ns : List Int) (i left seed n : Int), H a = some (drawO l i left seed n) ∧ H l = some (.lst (ns.map V.int)) ∧ 0 ≤ i ∧ 0 ≤ seed ∧ seed < 1000000007
/-- all but the draw is as it was -/
def Ext (a : Addr) (H H' : Hp) : Prop := DrawAt H' a ∧ ∀ b o, b ≠ a → H b = some o → H' b = some o
theorem DrawAt.ne {H : Hp} {a l : Addr} {i left seed n : Int} {ns : List Int} (h1 : H a = some (drawO l i left seed n)) (h2 : H l = some (.lst (ns.map V.int))) : l ≠ a := by
  refine ne_of h2 h1 ?_
  intro e
  unfold drawO at e
  cases ns with
  | nil => simp at e
  | cons x r => simp at e
theorem DrawAt.same {H H' : Hp} {a : Addr} (d : DrawAt H a) (e : Same H H') : DrawAt H' a := by
  obtain ⟨l, ns, i, left, seed, n, h1, h2, r⟩ := d
  exact ⟨l, ns, i, left, seed, n, e _ _ h1, e _ _ h2, r⟩
theorem Ext.trans {a : Addr} {H H1 H2 : Hp} (x : Ext a H H1) (y : Ext a H1 H2) : Ext a H H2 := ⟨y.1, fun b o n h => y.2 b o n (x.2 b o n h)⟩
theorem Ext.same {a : Addr} {H H1 H2 : Hp} (x : Ext a H H1) (y : Same H1 H2) : Ext a H H2 := ⟨x.1.same y, fun b o n h => y b o (x.2 b o n h)⟩
theorem Ext.of {a : Addr} {H H1 : Hp} (d : DrawAt H a) (y : Same H H1) : Ext a H H1 := ⟨d.same y, fun b o _ h => y b o h⟩
theorem DrawAt.neT {H : Hp} {a b : Addr} {xs : List V} (d : DrawAt H a) (h : H b = some (.tup xs)) : b ≠ a := by
  obtain ⟨l, ns, i, left, seed, n, h1, h2, r⟩ := d
  exact ne_of h h1 (by intro e; unfold drawO at e; cases e)
/-- a tuple stays -/
theorem Ext.tup {a b : Addr} {H H1 : Hp} {xs : List V} (x : Ext a H H1) (d : DrawAt H a) (h : H b = some (.tup xs)) : H1 b = some (.tup xs) := x.2 b _ (d.neT h) h
/-! the longest list or tuple in it -/
mutual
def mxl : PyData → Nat
  | .list ds => max ds.length (mxlAll ds)
  | .tuple ds => max ds.length (mxlAll ds)
  | _ => 0
def mxlAll : List PyData → Nat
  | [] => 0
  | d :: r => max (mxl d) (mxlAll r)
end
theorem mxl_get : ∀ {ds : List PyData} {i : Nat} {d : PyData}, ds[i]? = some d → mxl d ≤ mxlAll ds
  | [], _, _, e => by simp at e
  | x :: r, 0, d, e => by
    simp at e
    subst e
    simp only [mxlAll]
    omega
  | x :: r, i + 1, d, e => by
    have := mxl_get (ds := r) (i := i) (d := d) (by simpa using e)
    simp only [mxlAll]
    omega
def spBegin (K : PySem.W.Frag) : Sp := fun vs H Q _ => ∃ (s : Addr) (ns : List Int), vs = [.ref s] ∧ SqL K H s (ns.map V.int) ∧ ∀ (a : Addr) (H' : Hp), H a = none → DrawAt H' a → Same H H' → Q (.ref a) H'
def spPick : Sp := fun vs H Q _ => ∃ (a : Addr) (many : Int), vs = [.ref a, .int many] ∧ DrawAt H a ∧ 1 ≤ many ∧ many < 1073741824 ∧
  ∀ (r : Int) (H' : Hp), 0 ≤ r → r < many → DrawAt H' a → (∀ b, b ≠ a → H' b = H b) → Q (.int r) H'
def spSame (K : PySem.W.Frag) (n : Nat) : Sp := fun vs H Q _ => ∃ (x y : V) (d : PyData), vs = [x, y] ∧ Dp K H x d ∧ Dp K H y d ∧ d.depth < n ∧ mxl d ≤ 100000 ∧ ∀ H', Same H H' → Q (.bl true) H'
theorem same_none {P : Program} {w : World} {K : PySem.W.Frag} {mg : Str → Option Value} {base : Heap} {f : Addr} {fd : FuncData} : FnOk P w K mg base CX0 0 f fd ["_law_found", "_law_due"] (spSame K 0) := by
  have no : ∀ vs H Q E, ¬ spSame K 0 vs H Q E := fun vs H Q E h => by
    obtain ⟨x, y, d, _, _, _, h1, _⟩ := h
    omega
  exact ⟨fun vs H Q E h => absurd h (no vs H Q E), fun A outer s H args us vs Q E _ _ _ _ h => absurd h (no vs H Q E)⟩
/-! ### isinstance -/
theorem kit2 {K : PySem.W.Frag} {a b c : String} {r1 r2 : Bool} (h : kitB a b = some r1) (h2 : kitB a c = some r2) : PySem.W.kitAny K (.type a) [.type b, .type c] = some (r1 || r2) := by
  refine kitAny_cons (kit_ty h) (fun e => ?_) (fun e => by rw [e]; rfl)
  rw [e, Bool.false_or]
  refine kitAny_cons (kit_ty h2) (fun e => ?_) (fun e => e)
  rw [e]
  rfl
theorem cls2 (b c : String) : Paired ClsV [.ty b, .ty c] [.type b, .type c] := .cons (.ty b) (.cons (.ty c) .nil)
theorem tyx_list {K : PySem.W.Frag} {H : Hp} {a : Addr} {xs : List V} (h : SqL K H a xs) : TyX K H (.ref a) (.type "list") := by
  rcases h with (h | ⟨o, h⟩) | ⟨o, its, n, h, c, _⟩
  · exact .base (.lst h)
  · exact .base (.frz h)
  · exact .kList h c
theorem tyx_tuple {K : PySem.W.Frag} {H : Hp} {a : Addr} {xs : List V} (h : SqT K H a xs) : TyX K H (.ref a) (.type "tuple") := by
  rcases h with (h | ⟨o, h⟩) | ⟨o, its, n, h, c, _⟩
  · exact .base (.tup h)
  · exact .fTuple h
  · exact .kTuple h c
theorem ixLk {X : Cx} {K : PySem.W.Frag} (h : X.K = K) : IxR X (rIxL K) := by subst h; exact ix_list
theorem ixTk {X : Cx} {K : PySem.W.Frag} (h : X.K = K) : IxR X (rIxT K) := by subst h; exact ix_tup
theorem ixQk {X : Cx} {K : PySem.W.Frag} (h : X.K = K) : IxR X (rIx K) := by subst h; exact ix_seq
theorem inDk {X : Cx} {K : PySem.W.Frag} (h : X.K = K) (hu : X.A.units + 65 < cLine) : OpR X (compareOp .In) (rInD K) := by subst h; exact op_inD hu
theorem ifT {c A B : Prop} [Decidable c] (h : c) (x : A) : if c then A else B := by rw [if_pos h]; exact x
theorem ifF {c A B : Prop} [Decidable c] (h : ¬ c) (x : B) : if c then A else B := by rw [if_neg h]; exact x
theorem cut_ints (ns : List Int) (lo hi : Option Int) : ∃ ms : List Int, cutV (ns.map V.int) lo hi = ms.map V.int := by
  unfold cutV
  exact ⟨_, by rw [← List.map_drop, ← List.map_take]⟩
theorem shaped_bool (b : Bool) : SeqAt.shaped (.bool b) = true := by simp [SeqAt.shaped, PyData.canLay0, PyData.depth]
theorem shaped_int (b : Int) : SeqAt.shaped (.int b) = true := by simp [SeqAt.shaped, PyData.canLay0, PyData.depth]
theorem shaped_eqv {d : PyData} (h : SeqAt.shaped d = true) : PyData.eqv d d = true := SeqAt.eqv_refl d (SeqAt.canLay_of_shaped h)
theorem depth_get : ∀ {ds : List PyData} {i : Nat} {d : PyData}, ds[i]? = some d → d.depth ≤ PyData.depthAll ds
  | [], _, _, e => by simp at e
  | x :: r, 0, d, e => by
    simp at e
    subst e
    simp only [PyData.depthAll]
    omega
  | x :: r, i + 1, d, e => by
    have := depth_get (ds := r) (i := i) (d := d) (by simpa using e)
    simp only [PyData.depthAll]
    omega
theorem rep_bl (n : Nat) : List.replicate n (V.bl true) = (List.replicate n true).map V.bl := by simp
theorem rep_all (n : Nat) : (List.replicate n true).all id = true := by simp
theorem rep_succ (n : Nat) : List.replicate n (V.bl true) ++ [V.bl true] = List.replicate (n + 1) (V.bl true) := by
  rw [← List.replicate_succ']
end Gs

set_option Elab.async false
set_option linter.all false
set_option maxRecDepth 100000
set_option maxHeartbeats 4000000
namespace Gs
open PySem L2
/-! ### methods of an own class -/
def Mn (P : Program) (w : World) (K : PySem.W.Frag) (mg : Str → Option Value) (base : Heap) (CX : CXT) (k : Nat) (C : Addr) (m : Str) (ps : List Str) (sp : Sp) : Prop :=
  ∃ (f : Addr) (fd : FuncData), FnOk P w K mg base CX k f fd ps sp ∧ Meth K C m f ∧ Binds K fd ps []
theorem Mn.mono {P : Program} {w : World} {K : PySem.W.Frag} {mg : Str → Option Value} {base : Heap} {CX : CXT} {j k : Nat} {C : Addr} {m : Str} {ps : List Str} {sp : Sp} (D : Mn P w K mg base CX j C m ps sp) (h : j ≤ k) : Mn P w K mg base CX k C m ps sp := by
  obtain ⟨f, fd, F, m, b⟩ := D
  exact ⟨f, fd, F.mono h, m, b⟩
theorem Mn.imp {P : Program} {w : World} {K : PySem.W.Frag} {mg : Str → Option Value} {base : Heap} {CX : CXT} {k : Nat} {C : Addr} {m : Str} {ps : List Str} {sp sp' : Sp} (D : Mn P w K mg base CX k C m ps sp) (h : ∀ vs H Q E, sp' vs H Q E → sp vs H Q E) : Mn P w K mg base CX k C m ps sp' := by
  obtain ⟨f, fd, F, m, b⟩ := D
  exact ⟨f, fd, F.imp h, m, b⟩
section
variable {X : Cx} {CX : CXT} {k : Nat} {C : Addr} {m : Str} {ps : List Str} {sp : Sp} {p pos apos : Pos} {e o : Expr} {es : List Expr} {ta : TE} {t : TA}
theorem pe_methD {E : XK} {pl : Sem Bool} (c : Cls X.K C) (D : Mn X.prog X.w X.K X.mg X.base CX k C m ps sp) (hr : Room k X.A) (hx : Passes CX X E) (he : PE X o ta) (ha : PA X (e :: es) t)
    (hst : starEach (e :: es) X.env = (false, eval e X.env) :: starEach es X.env := by rfl) (hpl : (backTo pos (starEach es X.env)).any (·.1) = false := by rfl)
    (ht : eval (.Call (.Attribute o m apos) (e :: es) [] pos) X.env = (do let ov ← eval o X.env; standAt apos.atName; let (f, first) ← holding [ov] (getMethod ov m pl); callWith pos f first (backTo pos (starEach (e :: es) X.env)) (backToKw pos (keywordEach [] X.env))) := by rfl) :
    PE X (.Call (.Attribute o m apos) (e :: es) [] pos) (tMeth C m sp [] E ta t) := by
  obtain ⟨f, fd, F, hm, b⟩ := D
  exact pe_meth he c hm F hr b .nil hx ha hst hpl ht
theorem pe_methD0 {E : XK} {pl : Sem Bool} (c : Cls X.K C) (D : Mn X.prog X.w X.K X.mg X.base CX k C m ps sp) (hr : Room k X.A) (hx : Passes CX X E) (he : PE X o ta)
    (ht : eval (.Call (.Attribute o m apos) [] [] pos) X.env = (do let ov ← eval o X.env; standAt apos.atName; let (f, first) ← holding [ov] (getMethod ov m pl); callWith pos f first (backTo pos (starEach [] X.env)) (backToKw pos (keywordEach [] X.env))) := by rfl) :
    PE X (.Call (.Attribute o m apos) [] [] pos) (tMeth C m sp [] E ta tNil) := by
  obtain ⟨f, fd, F, hm, b⟩ := D
  exact pe_meth0 he c hm F hr b .nil hx ht
/-- within a try: what is raised is wished for at the slots -/
def tMethAt (C : Addr) (m : Str) (sp : Sp) (E : St → XK) (ta : TE) (t : TA) : TE := fun σ H Q => ta σ H fun x H1 => ∃ a dx fs, x = .ref a ∧ H1 a = some (.ins C dx fs) ∧ fs.lookup m = none ∧ t σ H1 fun vs H2 => sp (x :: vs) H2 Q (E σ)
theorem pe_methSD {E : St → XK} {pl : Sem Bool} (c : Cls X.K C) (D : Mn X.prog X.w X.K X.mg X.base CX k C m ps sp) (hr : Room k X.A) (hx : ∀ σ, PassesAt CX X σ (E σ)) (he : PE X o ta) (ha : PA X (e :: es) t)
    (hst : starEach (e :: es) X.env = (false, eval e X.env) :: starEach es X.env := by rfl) (hpl : (backTo pos (starEach es X.env)).any (·.1) = false := by rfl)
    (ht : eval (.Call (.Attribute o m apos) (e :: es) [] pos) X.env = (do let ov ← eval o X.env; standAt apos.atName; let (f, first) ← holding [ov] (getMethod ov m pl); callWith pos f first (backTo pos (starEach (e :: es) X.env)) (backToKw pos (keywordEach [] X.env))) := by rfl) :
    PE X (.Call (.Attribute o m apos) (e :: es) [] pos) (tMethAt C m sp E ta t) := by
  obtain ⟨f, fd, F, hm, b⟩ := D
  refine ⟨fun pins s σ H Q I h => PySem.W.methodCall_KW (pl := pl) (thn (he.run pins s σ H _ I h) fun u s1 hh => ?_) ht⟩
  obtain ⟨x, H1, I1, rx, a, dx, fs, ex, ea, l, q⟩ := hh
  subst ex
  obtain rfl : u = Value.ref a := rx
  refine getmeth_ok I1 ea c hm l (PySem.W.callWith_K (first := [.ref a]) (h₀ := X.base) I.ok.mod.kin hm.kp (thn (ha.run pos pins s1 σ H1 _ I1 q) fun us s2 hh => ?_) hst hpl)
  obtain ⟨vs, H2, I2, r, q2⟩ := hh
  exact ⟨I2.kIn, run_fnS (us := .ref a :: us) (vs := .ref a :: vs) F hr b (hx σ) I2 (.cons rfl r) q2⟩
theorem fldK {K : PySem.W.Frag} {f : Str} (h : X.K = K) (he : PE X o ta) (hb : attributeBase o f X.env (eval o X.env) = eval o X.env) : PE X (.Attribute o f pos) (tFld K ta f) := by
  subst h
  exact pe_fld he hb
end
/-! ### ints that may be written in a text -/
def Sm (i : Int) : Prop := i.natAbs < 2 ^ 200
theorem Sm.log {i : Int} (h : Sm i) : i.natAbs.log2 < 1920 := by
  by_cases z : i.natAbs = 0
  · rw [z]
    decide
  · have h1 : i.natAbs.log2 < 200 := (Nat.log2_lt z).mpr h
    omega
theorem Sm.of {i : Int} (h0 : -(10 ^ 40) ≤ i) (h1 : i ≤ 10 ^ 40) : Sm i := by
  have : i.natAbs ≤ 10 ^ 40 := by omega
  exact Nat.lt_of_le_of_lt this (by decide)
theorem Sm.len {i : Int} (h : Sm i) : (Str.ofString (toString i)).length ≤ 201 := by
  have h1 : i.natAbs.log2 < 200 := by
    by_cases z : i.natAbs = 0
    · rw [z]
      decide
    · exact (Nat.log2_lt z).mpr h
  have e := PySem.int_text_length_le (k := 200) (by decide) h1
  rw [PySem.ofString_length]
  exact e
/-! ### repr of an own class -/
def rRepr (C : Addr) (sp : Sp) (E : XK) : List V → Hp → VK → Prop := fun xs H Q => ∃ a dx fs, xs = [.ref a] ∧ H a = some (.ins C dx fs) ∧ sp [.ref a] H (fun v H' => (∃ z, v = .str z) ∧ Q v H') E
theorem call_repr {X : Cx} {CX : CXT} {k : Nat} {C f : Addr} {fd : FuncData} {ps : List Str} {sp : Sp} {E : XK} (F : FnOk X.prog X.w X.K X.mg X.base CX k f fd ps sp) (hs : PySem.W.findIn X.K (.ref C) "__repr__" = some (some (.ref f))) (hf : PySem.W.isFn X.K (.ref f) = true)
    (hb : Binds X.K fd ps []) (hr : Room (k + 1) X.A) (hx : Passes CX X E) : CallR X (.builtin "repr") (rRepr C sp E) := by
  intro pins s σ H xs us Q I r h
  obtain ⟨a, dx, fs, rfl, ha, hsp⟩ := h
  obtain ⟨u, rfl, ru⟩ := vals1 r
  cases ru
  obtain ⟨mA, J, _⟩ := ins_get I.hok ha
  obtain ⟨od, J, _⟩ := J.look
  obtain ⟨m, hF⟩ := I.fr
  have e := I.env0
  have e0 : Env0 X.prog X.w X.K X.mg X.base X.A.in1 X.stack s H := ⟨e.frames, e.mod, e.bs, e.bsz, e.funs, e.frf, e.hok, e.bare⟩
  have hl := F.len _ _ _ _ hsp
  refine PySem.W.repr_K hr.in1.units0 hF I.ok.mod.kin J hs hf ?_
  have b0 := hb s [.ref a] I.kIn (by rw [List.append_nil]; exact hl)
  rw [List.append_nil] at b0
  refine wpAny_call (codeAny_mono (F.run X.A.in1 X.stack s H ⟨[.ref a], []⟩ [.ref a] [.ref a] _ E hr.in1 e0 b0 (.cons rfl .nil) hsp) fun r s' hq => ?_)
  cases r with
  | error e => exact hx pins σ H s e s' I hq
  | ok fl =>
    cases fl with
    | ret w =>
      obtain ⟨z, H', I', rz, ⟨y, ez⟩, ex⟩ := I.after hq
      subst ez
      obtain ⟨tk, rfl⟩ := rz
      exact ⟨.str y, H', I', ⟨tk, rfl⟩, ex⟩
    | next => exact False.elim hq
    | brk => exact False.elim hq
    | cont => exact False.elim hq
/-! ### a row of sizes -/
structure Sz where
  many : Int
  common : Int
  odd : List (Int × Int × Bool)
def fldZ (n c : Int) (d : Addr) : List (Str × V) := putF "odd" (.ref d) (putF "common" (.int c) (putF "many" (.int n) []))
theorem ne1 : ¬ (("many" : Str) = "common") := by decide +kernel
theorem ne2 : ¬ (("many" : Str) = "odd") := by decide +kernel
theorem ne3 : ¬ (("common" : Str) = "odd") := by decide +kernel
theorem fldZ_eq (n c : Int) (d : Addr) : fldZ n c d = ([("many", .int n), ("common", .int c), ("odd", .ref d)] : List (Str × V)) := by
  unfold fldZ
  simp only [putF, if_neg ne1, if_neg ne2, if_neg ne3]
theorem fz_many (n c : Int) (d : Addr) : (fldZ n c d).lookup ("many" : Str) = some (.int n) := by
  unfold fldZ
  rw [lookup_putF, if_neg ne2, lookup_putF, if_neg ne1, lookup_putF, if_pos rfl]
theorem fz_common (n c : Int) (d : Addr) : (fldZ n c d).lookup ("common" : Str) = some (.int c) := by
  unfold fldZ
  rw [lookup_putF, if_neg ne3, lookup_putF, if_pos rfl]
theorem fz_odd (n c : Int) (d : Addr) : (fldZ n c d).lookup ("odd" : Str) = some (.ref d) := by
  unfold fldZ
  rw [lookup_putF, if_pos rfl]
theorem fz_no (n c : Int) (d : Addr) {m : Str} (h1 : (decide (m = "many") || decide (m = "common") || decide (m = "odd")) = false := by decide +kernel) : (fldZ n c d).lookup m = none := by
  simp only [Bool.or_eq_false_iff, decide_eq_false_iff_not] at h1
  unfold fldZ
  rw [lookup_putF, if_neg h1.2, lookup_putF, if_neg h1.1.2, lookup_putF, if_neg h1.1.1]
  rfl
theorem fz_put_odd (n c : Int) (d e : Addr) : putF "odd" (.ref e) (fldZ n c d) = fldZ n c e := by
  rw [fldZ_eq, fldZ_eq]
  simp only [putF, if_neg ne2, if_neg ne3, if_true]
theorem fz_put_many (n m c : Int) (d : Addr) : putF "many" (.int m) (fldZ n c d) = fldZ m c d := by
  rw [fldZ_eq, fldZ_eq]
  simp only [putF, if_true]
theorem fz_few (n c : Int) (d : Addr) : (fldZ n c d).length < 1000 := by rw [fldZ_eq]; show 3 < 1000; decide
abbrev OddE := Int × Int × Bool
def OddAt (H : Hp) (kvs : List (Key × V)) (odd : List OddE) : Prop := Paired (fun (kv : Key × V) (e : OddE) => kv.1 = Sum.inl e.1 ∧ ∃ t, kv.2 = .ref t ∧ H t = some (.tup [.int e.2.1, .bl e.2.2])) kvs odd
/-- tuples stay -/
def TupSame (H H' : Hp) : Prop := ∀ t xs, H t = some (.tup xs) → H' t = some (.tup xs)
theorem TupSame.of {H H' : Hp} (s : Same H H') : TupSame H H' := fun t xs h => s t _ h
theorem TupSame.trans {H H1 H2 : Hp} (a : TupSame H H1) (b : TupSame H1 H2) : TupSame H H2 := fun t xs h => b t xs (a t xs h)
theorem TupSame.upd {H : Hp} {D : Addr} {u : HO} (h : H D = some u) (hu : ∀ xs, u ≠ .tup xs) (o : HO) : TupSame H (L2.upd H D o) := fun t xs q => by
  rw [upd_ne (ne_of q h (fun e => hu xs e.symm))]
  exact q
theorem OddAt.mono {H H' : Hp} (s : TupSame H H') : ∀ {kvs : List (Key × V)} {odd : List OddE}, OddAt H kvs odd → OddAt H' kvs odd
  | _, _, .nil => .nil
  | _, _, .cons ⟨e, t, e2, h⟩ r => .cons ⟨e, t, e2, s _ _ h⟩ (OddAt.mono s r)
theorem OddAt.len {H : Hp} : ∀ {kvs : List (Key × V)} {odd : List OddE}, OddAt H kvs odd → kvs.length = odd.length
  | _, _, .nil => rfl
  | _, _, .cons _ r => by simp [OddAt.len r]
theorem OddAt.keys {H : Hp} : ∀ {kvs : List (Key × V)} {odd : List OddE}, OddAt H kvs odd → kvs.map (·.1) = (odd.map (·.1)).map Sum.inl
  | _, _, .nil => rfl
  | _, _, .cons ⟨e, _⟩ r => by simp [OddAt.keys r, e]
def look (odd : List OddE) (i : Int) : Option (Int × Bool) := (odd.find? fun e => decide (e.1 = i)).map (·.2)
theorem OddAt.look {H : Hp} : ∀ {kvs : List (Key × V)} {odd : List OddE} (i : Int), OddAt H kvs odd → (valV kvs (Sum.inl i) = none ∧ Gs.look odd i = none) ∨ ∃ t x, valV kvs (Sum.inl i) = some (.ref t) ∧ Gs.look odd i = some x ∧ H t = some (.tup [.int x.1, .bl x.2])
  | _, _, i, .nil => .inl ⟨rfl, rfl⟩
  | (k, v) :: kvs, (j, x) :: odd, i, .cons ⟨e, t, e2, h⟩ r => by
    simp only at e e2 h
    subst e e2
    by_cases hij : j = i
    · subst hij
      exact .inr ⟨t, x, by simp [valV], by simp [Gs.look], h⟩
    · have q1 : valV ((Sum.inl j, V.ref t) :: kvs) (Sum.inl i) = valV kvs (Sum.inl i) := by simp [valV, hij]
      have q2 : Gs.look ((j, x) :: odd) i = Gs.look odd i := by simp [Gs.look, hij]
      rw [q1, q2]
      exact OddAt.look i r
structure Wf (z : Sz) : Prop where
  m0 : 1 ≤ z.many
  m1 : z.many ≤ 1000000000
  c0 : 1 ≤ z.common
  c1 : z.common ≤ 60
  nd : (z.odd.map (·.1)).Nodup
  le : z.odd.length ≤ 60
  ok : ∀ e ∈ z.odd, 0 ≤ e.1 ∧ e.1 < z.many ∧ 1 ≤ e.2.1 ∧ e.2.1 ≤ 60 ∧ (e.2.1 ≠ z.common ∨ e.2.2 = true)
/-- a row of sizes stands at p, its dict at d: to be read -/
def SzR (C : Addr) (H : Hp) (p d : Addr) (z : Sz) : Prop := ∃ dx kvs, H p = some (.ins C dx (fldZ z.many z.common d)) ∧ Rd H d (.dK kvs) ∧ OddAt H kvs z.odd ∧ Wf z
/-- .. to be written -/
def SzW (C : Addr) (H : Hp) (p d : Addr) (z : Sz) : Prop := ∃ dx kvs, H p = some (.ins C dx (fldZ z.many z.common d)) ∧ H d = some (.dK kvs) ∧ OddAt H kvs z.odd ∧ Wf z
theorem SzW.r {C : Addr} {H : Hp} {p d : Addr} {z : Sz} (h : SzW C H p d z) : SzR C H p d z := by
  obtain ⟨dx, kvs, h1, h2, h3, h4⟩ := h
  exact ⟨dx, kvs, h1, .inl h2, h3, h4⟩
theorem Same.rd {H H' : Hp} (s : Same H H') {d : Addr} {u : HO} (r : Rd H d u) : Rd H' d u := by
  rcases r with r | ⟨o, r⟩
  · exact .inl (s _ _ r)
  · exact .inr ⟨o, s _ _ r⟩
theorem SzR.same {C : Addr} {H H' : Hp} {p d : Addr} {z : Sz} (h : SzR C H p d z) (s : Same H H') : SzR C H' p d z := by
  obtain ⟨dx, kvs, h1, h2, h3, h4⟩ := h
  exact ⟨dx, kvs, s _ _ h1, Same.rd s h2, h3.mono (TupSame.of s), h4⟩
theorem SzW.same {C : Addr} {H H' : Hp} {p d : Addr} {z : Sz} (h : SzW C H p d z) (s : Same H H') : SzW C H' p d z := by
  obtain ⟨dx, kvs, h1, h2, h3, h4⟩ := h
  exact ⟨dx, kvs, s _ _ h1, s _ _ h2, h3.mono (TupSame.of s), h4⟩
def stM (z : Sz) (i : Int) : Int × Bool := (look z.odd i).getD (z.common, false)
def szM (z : Sz) (i : Int) : Int := if (stM z i).2 = true then 0 else (stM z i).1
def inR (z : Sz) (i : Int) : Prop := 0 ≤ i ∧ i < z.many
/-! ### what the program's defs promise -/
def spNum (cN : Addr) : Sp := fun vs H Q E => ∃ i n : Int, vs = [.int i, .int n] ∧ Sm i ∧ Sm n ∧ (0 ≤ i ∧ i < n → Q .non H) ∧ (¬ (0 ≤ i ∧ i < n) → E (.ref cN) none H)
def spCS (cS : Addr) : Sp := fun vs H Q E => ∃ i : Int, vs = [.int i] ∧ Sm i ∧ (1 ≤ i ∧ i ≤ 60 → Q .non H) ∧ (¬ (1 ≤ i ∧ i ≤ 60) → E (.ref cS) none H)
def spState (C cN : Addr) : Sp := fun vs H Q E => ∃ (p d : Addr) (z : Sz) (i : Int), vs = [.ref p, .int i] ∧ SzR C H p d z ∧ Sm i ∧
  (inR z i → ∀ (t : Addr) (H' : Hp), Same H H' → H' t = some (.tup [.int (stM z i).1, .bl (stM z i).2]) → Q (.ref t) H') ∧ (¬ inR z i → E (.ref cN) none H)
def spQ (C cN : Addr) (g : Sz → Int → V) : Sp := fun vs H Q E => ∃ (p d : Addr) (z : Sz) (i : Int), vs = [.ref p, .int i] ∧ SzR C H p d z ∧ Sm i ∧ (inR z i → ∀ H', Same H H' → Q (g z i) H') ∧ (¬ inR z i → E (.ref cN) none H)
abbrev spSize (C cN : Addr) : Sp := spQ C cN fun z i => .int (szM z i)
abbrev spOwn (C cN : Addr) : Sp := spQ C cN fun z i => .int (stM z i).1
abbrev spHid (C cN : Addr) : Sp := spQ C cN fun z i => .bl (stM z i).2
def ahM (z : Sz) (i : Int) : Int := i * z.common + (((z.odd.map (·.1)).filter fun k => decide (k < i)).map fun k => szM z k - z.common).sum
def spAhead (C cN : Addr) : Sp := fun vs H Q E => ∃ (p d : Addr) (z : Sz) (i : Int), vs = [.ref p, .int i] ∧ SzW C H p d z ∧ Sm i ∧ (0 ≤ i ∧ i ≤ z.many → ∀ H', Same H H' → Q (.int (ahM z i)) H') ∧ (¬ (0 ≤ i ∧ i ≤ z.many) → E (.ref cN) none H)
def spTotal (C : Addr) : Sp := fun vs H Q _ => ∃ (p d : Addr) (z : Sz), vs = [.ref p] ∧ SzW C H p d z ∧ ∀ H', Same H H' → Q (.int (ahM z z.many)) H'
def spInit (C cM cS : Addr) : Sp := fun vs H Q E => ∃ (p dx : Addr) (n c : Int), vs = [.ref p, .int n, .int c] ∧ H p = some (.ins C dx []) ∧ Sm n ∧ Sm c ∧
  ((1 ≤ n ∧ n ≤ 1000000) ∧ (1 ≤ c ∧ c ≤ 60) → ∀ (d : Addr) (H' : Hp), H d = none → SzW C H' p d ⟨n, c, []⟩ → (∀ b o, H b = some o → b ≠ p → H' b = some o) → Q .non H') ∧
  (¬ (1 ≤ n ∧ n ≤ 1000000) → E (.ref cM) none H) ∧ ((1 ≤ n ∧ n ≤ 1000000) → ¬ (1 ≤ c ∧ c ≤ 60) → E (.ref cS) none H)
/-! ### small words for the loops -/
theorem OddAt.at_ {H : Hp} : ∀ {kvs : List (Key × V)} {odd : List OddE} {j : Nat} {k : Key} {v : V}, OddAt H kvs odd → kvs[j]? = some (k, v) → ∃ e, odd[j]? = some e ∧ k = Sum.inl e.1
  | _, _, _, _, _, .nil, q => by simp at q
  | _, _, 0, _, _, .cons ⟨e, _⟩ _, q => by
    simp at q
    subst q
    exact ⟨_, rfl, e⟩
  | _, _, j + 1, _, _, .cons _ r, q => by simpa using OddAt.at_ (j := j) r (by simpa using q)
theorem take_filter1 {α : Type} (l : List α) (p : α → Bool) {i : Nat} {x : α} (h : l[i]? = some x) : (l.take (i + 1)).filter p = (l.take i).filter p ++ (if p x = true then [x] else []) := by
  rw [List.take_add_one, h, List.filter_append]
  simp [List.filter_cons]
theorem take_map1 {α β : Type} (l : List α) (g : α → β) {i : Nat} {x : α} (h : l[i]? = some x) : (l.take (i + 1)).map g = (l.take i).map g ++ [g x] := by
  rw [List.take_add_one, h, List.map_append]
  rfl
/-- rows of exceptions -/
abbrev Ex3 := Int × Int × Bool
def exc1 (z : Sz) (k : Int) : Ex3 := (k, (stM z k).1, (stM z k).2)
def exD (e : Ex3) : PyData := .tuple [.int e.1, .int e.2.1, .bool e.2.2]
def DpT (H : Hp) (xs : List V) (es : List Ex3) : Prop := Paired (fun (v : V) (e : Ex3) => ∃ t, v = .ref t ∧ H t = some (.tup [.int e.1, .int e.2.1, .bl e.2.2])) xs es
theorem DpT.mono {H H' : Hp} (s : TupSame H H') : ∀ {xs : List V} {cs : List Ex3}, DpT H xs cs → DpT H' xs cs
  | _, _, .nil => .nil
  | _, _, .cons ⟨t, e, h⟩ r => .cons ⟨t, e, s _ _ h⟩ (DpT.mono s r)
theorem DpT.append {H : Hp} : ∀ {xs ys : List V} {cs ds : List Ex3}, DpT H xs cs → DpT H ys ds → DpT H (xs ++ ys) (cs ++ ds)
  | _, _, _, _, .nil, s => s
  | _, _, _, _, .cons a r, s => .cons a (DpT.append r s)
theorem DpT.len {H : Hp} : ∀ {xs : List V} {cs : List Ex3}, DpT H xs cs → xs.length = cs.length
  | _, _, .nil => rfl
  | _, _, .cons _ r => by simp [DpT.len r]
theorem DpT.dp {K : PySem.W.Frag} {H : Hp} : ∀ {xs : List V} {cs : List Ex3}, DpT H xs cs → DpAll K H xs (cs.map exD)
  | _, _, .nil => .nil
  | _, _, .cons ⟨t, e, h⟩ r => by
    subst e
    exact .cons (.tup (SqT.of h) (.cons (.int _) (.cons (.int _) (.cons (.bl _) .nil)))) (DpT.dp r)
def spExc (K : PySem.W.Frag) (C : Addr) : Sp := fun vs H Q _ => ∃ (p d : Addr) (z : Sz), vs = [.ref p] ∧ SzW C H p d z ∧ ∀ (ys : List Int) (l : Addr) (H' : Hp), ys.Perm (z.odd.map (·.1)) → ys.Pairwise (· ≤ ·) → Same H H' → Dp K H' (.ref l) (.list ((ys.map (exc1 z)).map exD)) → Q (.ref l) H'
def reprM (z : Sz) : Str := Str.empty ++ ("Sizes " : Str) ++ (toString z.many : String) ++ (" " : Str) ++ (toString z.common : String)
def spRepr (C : Addr) : Sp := fun vs H Q _ => ∃ (p d : Addr) (z : Sz), vs = [.ref p] ∧ SzR C H p d z ∧ Q (.str (reprM z)) H
end Gs

set_option Elab.async false
set_option linter.all false
set_option maxRecDepth 100000
set_option maxHeartbeats 4000000
namespace Gs
open PySem L2
/-! ### the law's own model of a row of sizes: a dict of two counts and two dicts -/
structure Zs where
  many : Int
  common : Int
  own : List (Int × Int)
  gone : List Int
def zL (n c : Int) (o g : Addr) : List (Key × V) := [(Sum.inr "many", .int n), (Sum.inr "common", .int c), (Sum.inr "own", .ref o), (Sum.inr "gone", .ref g)]
theorem nz1 : ¬ ("many" : Str) = "common" := by decide +kernel
theorem nz2 : ¬ ("many" : Str) = "own" := by decide +kernel
theorem nz3 : ¬ ("many" : Str) = "gone" := by decide +kernel
theorem nz4 : ¬ ("common" : Str) = "own" := by decide +kernel
theorem nz5 : ¬ ("common" : Str) = "gone" := by decide +kernel
theorem nz6 : ¬ ("own" : Str) = "gone" := by decide +kernel
theorem zl_many (n c : Int) (o g : Addr) : some (V.int n) = valV (zL n c o g) (Sum.inr "many") := by simp [valV, zL]
theorem zl_common (n c : Int) (o g : Addr) : some (V.int c) = valV (zL n c o g) (Sum.inr "common") := by simp [valV, zL, nz1]
theorem zl_own (n c : Int) (o g : Addr) : some (V.ref o) = valV (zL n c o g) (Sum.inr "own") := by simp [valV, zL, nz2, nz4]
theorem zl_gone (n c : Int) (o g : Addr) : some (V.ref g) = valV (zL n c o g) (Sum.inr "gone") := by simp [valV, zL, nz3, nz5, nz6]
def ownK (l : List (Int × Int)) : List (Key × V) := l.map fun e => (Sum.inl e.1, .int e.2)
def goneK (l : List Int) : List (Key × V) := l.map fun k => (Sum.inl k, .bl true)
def zown (own : List (Int × Int)) (k : Int) : Option Int := (own.find? fun e => decide (e.1 = k)).map (·.2)
theorem own_val : ∀ (own : List (Int × Int)) (k : Int), valV (ownK own) (Sum.inl k) = (zown own k).map V.int
  | [], k => rfl
  | (j, x) :: r, k => by
    by_cases h : j = k
    · subst h
      simp [valV, ownK, zown]
    · have q1 : valV (ownK ((j, x) :: r)) (Sum.inl k) = valV (ownK r) (Sum.inl k) := by simp [valV, ownK, h]
      have q2 : zown ((j, x) :: r) k = zown r k := by simp [zown, h]
      rw [q1, q2]
      exact own_val r k
theorem gone_val : ∀ (gone : List Int) (k : Int), valV (goneK gone) (Sum.inl k) = if k ∈ gone then some (.bl true) else none
  | [], k => rfl
  | j :: r, k => by
    by_cases h : j = k
    · subst h
      simp [valV, goneK]
    · have h' : ¬ k = j := fun z => h z.symm
      have q1 : valV (goneK (j :: r)) (Sum.inl k) = valV (goneK r) (Sum.inl k) := by simp [valV, goneK, h]
      rw [q1, gone_val r k]
      simp [h']
theorem gone_some (gone : List Int) (k : Int) : (valV (goneK gone) (Sum.inl k)).isSome = decide (k ∈ gone) := by
  rw [gone_val]
  by_cases h : k ∈ gone
  · rw [if_pos h, decide_eq_true h]
    rfl
  · rw [if_neg h, decide_eq_false h]
    rfl
def zkeys (z : Zs) : List Int := z.own.map (·.1) ++ z.gone.filter fun k => !(zown z.own k).isSome
structure Zok (z : Zs) : Prop where
  m0 : 1 ≤ z.many
  m1 : z.many ≤ 1000000000
  c0 : 1 ≤ z.common
  c1 : z.common ≤ 60
  le : (zkeys z).length < 64
  l1 : z.own.length ≤ 1000
  l2 : z.gone.length ≤ 1000
  ok : ∀ k ∈ zkeys z, 0 ≤ k ∧ k < z.many
structure ZAt (H : Hp) (a o g : Addr) (z : Zs) : Prop where
  ha : H a = some (.dK (zL z.many z.common o g))
  ho : H o = some (.dK (ownK z.own))
  hg : H g = some (.dK (goneK z.gone))
  ao : a ≠ o
  ag : a ≠ g
  og : o ≠ g
  ok : Zok z
theorem ZAt.same {H H' : Hp} {a o g : Addr} {z : Zs} (h : ZAt H a o g z) (s : Same H H') : ZAt H' a o g z := ⟨s _ _ h.ha, s _ _ h.ho, s _ _ h.hg, h.ao, h.ag, h.og, h.ok⟩
theorem dg_many {H : Hp} {a o g : Addr} {n c : Int} (h : H a = some (.dK (zL n c o g))) : DGet H a (.str "many") (some (.int n)) := .inl ⟨_, Sum.inr "many", .inl h, rfl, zl_many n c o g⟩
theorem dg_common {H : Hp} {a o g : Addr} {n c : Int} (h : H a = some (.dK (zL n c o g))) : DGet H a (.str "common") (some (.int c)) := .inl ⟨_, Sum.inr "common", .inl h, rfl, zl_common n c o g⟩
theorem dg_own {H : Hp} {a o g : Addr} {n c : Int} (h : H a = some (.dK (zL n c o g))) : DGet H a (.str "own") (some (.ref o)) := .inl ⟨_, Sum.inr "own", .inl h, rfl, zl_own n c o g⟩
theorem dg_gone {H : Hp} {a o g : Addr} {n c : Int} (h : H a = some (.dK (zL n c o g))) : DGet H a (.str "gone") (some (.ref g)) := .inl ⟨_, Sum.inr "gone", .inl h, rfl, zl_gone n c o g⟩
theorem dg_own1 {H : Hp} {o : Addr} {own : List (Int × Int)} (h : H o = some (.dK (ownK own))) (k : Int) : DGet H o (.int k) ((zown own k).map V.int) := .inl ⟨_, Sum.inl k, .inl h, rfl, (own_val own k).symm⟩
theorem dg_gone1 {H : Hp} {g : Addr} {gone : List Int} (h : H g = some (.dK (goneK gone))) (k : Int) : DGet H g (.int k) (valV (goneK gone) (Sum.inl k)) := .inl ⟨_, Sum.inl k, .inl h, rfl, rfl⟩
def zst (z : Zs) (k : Int) : Int × Bool := ((zown z.own k).getD z.common, decide (k ∈ z.gone))
def zsz (z : Zs) (k : Int) : Int := if k ∈ z.gone then 0 else (zown z.own k).getD z.common
theorem opt_int (o : Option Int) (c : Int) : (o.map V.int).getD (.int c) = .int (o.getD c) := by cases o <;> rfl
def zah (z : Zs) (k : Int) : Int := k * z.common + (((zkeys z).filter fun j => decide (j < k)).map fun j => zsz z j - z.common).sum
def spZodd : Sp := fun vs H Q _ => ∃ (a o g : Addr) (z : Zs), vs = [.ref a] ∧ ZAt H a o g z ∧ ∀ (ys : List Int) (l : Addr) (H' : Hp), ys.Perm (zkeys z) → ys.Pairwise (· ≤ ·) → Same H H' → H' l = some (.lst (ys.map V.int)) → Q (.ref l) H'
def spZsize : Sp := fun vs H Q _ => ∃ (a o g : Addr) (z : Zs) (k : Int), vs = [.ref a, .int k] ∧ ZAt H a o g z ∧ Q (.int (zsz z k)) H
def spZahead : Sp := fun vs H Q _ => ∃ (a o g : Addr) (z : Zs) (k : Int), vs = [.ref a, .int k] ∧ ZAt H a o g z ∧ ∀ H', Same H H' → Q (.int (zah z k)) H'
/-- the two models say the same -/
structure Rel (s : Sz) (z : Zs) : Prop where
  many : s.many = z.many
  common : s.common = z.common
  st : ∀ k, stM s k = zst z k
  keys : (s.odd.map (·.1)).Perm (zkeys z)
theorem Rel.sz {s : Sz} {z : Zs} (r : Rel s z) (k : Int) : szM s k = zsz z k := by
  unfold szM zsz
  rw [r.st k]
  unfold zst
  by_cases h : k ∈ z.gone
  · simp [h]
  · simp [h]
theorem perm_sum {l l' : List Int} (p : l.Perm l') : l.sum = l'.sum := by
  induction p with
  | nil => rfl
  | cons x _ ih => simp [ih]
  | swap x y l => simp only [List.sum_cons]; omega
  | trans _ _ h1 h2 => rw [h1, h2]
theorem Rel.ah {s : Sz} {z : Zs} (r : Rel s z) (k : Int) : ahM s k = zah z k := by
  unfold ahM zah
  rw [r.common]
  congr 1
  have e : (fun j => szM s j - z.common) = fun j => zsz z j - z.common := by
    funext j
    rw [r.sz j]
  rw [e]
  exact perm_sum ((r.keys.filter _).map _)
theorem sorted_eq {l l' : List Int} (p : l.Perm l') (h : l.Pairwise (· ≤ ·)) (h' : l'.Pairwise (· ≤ ·)) : l = l' := by
  refine List.Perm.eq_of_pairwise (le := fun a b => a ≤ b) ?_ h h' p
  intro a b _ _ h1 h2
  omega
def spZst (K : PySem.W.Frag) (C : Addr) : Sp := fun vs H Q _ => ∃ (p d a o g l : Addr) (s : Sz) (z : Zs) (ns : List Int), vs = [.ref p, .ref a, .ref l] ∧ SzW C H p d s ∧ ZAt H a o g z ∧ Rel s z ∧ H l = some (.lst (ns.map V.int)) ∧ ns.length ≤ 1000 ∧ (∀ n ∈ ns, Sm n) ∧ ∀ H', Same H H' → Q (.bl true) H'
def spFar : Sp := fun vs H Q _ => ∃ a : Addr, vs = [.ref a] ∧ DrawAt H a ∧ ∀ (i : Int) (H' : Hp), Sm i → (i < -1000000 ∨ 1000000 < i) → Ext a H H' → Q (.int i) H'
def spZnew : Sp := fun vs H Q _ => ∃ n c : Int, vs = [.int n, .int c] ∧ (1 ≤ n ∧ n ≤ 1000000000) ∧ (1 ≤ c ∧ c ≤ 60) ∧ ∀ (a o g : Addr) (H' : Hp), Same H H' → ZAt H' a o g ⟨n, c, [], []⟩ → H a = none → H o = none → H g = none → Q (.ref a) H'
theorem Ext.pick {a : Addr} {H H1 : Hp} (d : DrawAt H1 a) (e : ∀ b, b ≠ a → H1 b = H b) : Ext a H H1 := ⟨d, fun b o n h => by rw [e b n]; exact h⟩
/-- a caught error asked for its class -/
def rIsX (K : PySem.W.Frag) (a : Addr) (cls : Value) (d : Option Addr) : List V → Hp → VK → Prop := fun xs H Q => ∃ (D : Addr) (c : V) (cv : Value) (b : Bool), cls = .ref D ∧ d = none ∧ ExcC K D ∧ xs = [.ref a, c] ∧ (∀ u, RelV c u → u = cv) ∧ PySem.W.kitOne K (.ref D) cv = some b ∧ Q (.bl b) H
theorem call_isX {X : Cx} {a : Addr} {oe : Obj} {cls : Value} {d : Option Addr} {pn : List (Addr × Obj)} (hz : Zc cls d oe) (hf : ∃ vs, oe.data = .fields vs) : CallR (X.suite a ((a, oe) :: pn)) (.builtin "isinstance") (rIsX X.K a cls d) := by
  intro pins s σ H xs us Q I r h
  obtain ⟨D, c, cv, b, rfl, rfl, e, h1, h2, h3, q⟩ := h
  exact call_isE e hz hf pins s σ H xs us Q I r ⟨c, cv, b, h1, h2, h3, q⟩
theorem glR {X : Cx} {x : Str} {C : Addr} {pos : Pos} (hg : Gl X x) (hm : X.mg x = some (.ref C)) (hd : (x == ("__debug__" : Str)) = false := by decide) : PE X (.Name x pos) (tC (.ref C)) := pe_glob hg hm rfl hd
theorem kit_own {K : PySem.W.Frag} {D C : Addr} {b : Bool} (hne : D ≠ C) (hc : PySem.W.isClsIn K C = true) (ht : PySem.W.typeIn K (.ref C) = some (.type "type")) (hs : PySem.W.subIn K (.ref D) (.ref C) = some b) : PySem.W.kitOne K (.ref D) (.ref C) = some b := by
  have h2 : (PySem.W.clsIn K C).isSome = true := hc
  have h1 : PySem.W.kitCls K (.ref D) (.ref C) = some b := by
    show (if ((PySem.W.clsIn K C).isSome && PySem.W.typeIn K (.ref C) == some (.type "type")) = true then PySem.W.subIn K (.ref D) (.ref C) else none) = some b
    rw [h2, ht, if_pos (by simp)]
    exact hs
  unfold PySem.W.kitOne
  rw [if_neg (by simpa using hne)]
  exact h1
theorem kit_same {K : PySem.W.Frag} {D : Addr} : PySem.W.kitOne K (.ref D) (.ref D) = some true := by
  unfold PySem.W.kitOne
  rw [if_pos (by simp)]
theorem kit_tyE {K : PySem.W.Frag} {D : Addr} {T : String} {b : Bool} (hm : PySem.W.kitMeta T = true) (hs : PySem.W.subIn K (.ref D) (.type T) = some b) : PySem.W.kitOne K (.ref D) (.type T) = some b := by
  unfold PySem.W.kitOne
  rw [if_neg (by simp)]
  show (if PySem.W.kitMeta T = true then PySem.W.subIn K (.ref D) (.type T) else none) = some b
  rw [if_pos hm]
  exact hs
theorem rel_ty {T : String} : ∀ u, RelV (.ty T) u → u = .type T := fun u h => h
theorem rel_ref {C : Addr} : ∀ u, RelV (.ref C) u → u = .ref C := fun u h => h
theorem call_reprD {X : Cx} {CX : CXT} {k : Nat} {C : Addr} {ps : List Str} {sp : Sp} {E : XK} (D : Mn X.prog X.w X.K X.mg X.base CX k C "__repr__" ps sp) (hr : Room (k + 1) X.A) (hx : Passes CX X E) : CallR X (.builtin "repr") (rRepr C sp E) := by
  obtain ⟨f, fd, F, hm, b⟩ := D
  exact call_repr F hm.at_ hm.fn b hr hx
def zexc (z : Zs) (k : Int) : Ex3 := (k, (zst z k).1, (zst z k).2)
theorem Rel.exc {s : Sz} {z : Zs} (r : Rel s z) (k : Int) : exc1 s k = zexc z k := by
  unfold exc1 zexc
  rw [r.st k]
def reprZ (n c : Int) : Str := ("Sizes " : Str) ++ (toString n : String) ++ (" " : Str) ++ (toString c : String)
theorem Rel.repr {s : Sz} {z : Zs} (r : Rel s z) : reprM s = reprZ z.many z.common := by
  unfold reprM reprZ
  rw [r.many, r.common, PySem.Str.empty_append]
theorem ex_mxl : ∀ es : List Ex3, mxlAll (es.map exD) ≤ 3
  | [] => by simp [mxlAll]
  | e :: r => by
    have := ex_mxl r
    simp only [List.map_cons, mxlAll, exD, mxl, List.length_cons, List.length_nil]
    omega
theorem ex_depth : ∀ es : List Ex3, PyData.depthAll (es.map exD) ≤ 1
  | [] => by simp [PyData.depthAll]
  | e :: r => by
    have := ex_depth r
    simp only [List.map_cons, PyData.depthAll, exD, PyData.depth]
    omega
end Gs
namespace Gs
open PySem L2
/-! ### an instance made with a keyword-only argument -/
def Cn (P : Program) (w : World) (K : PySem.W.Frag) (mg : Str → Option Value) (base : Heap) (CX : CXT) (k : Nat) (C : Addr) (x : Str) (sp : Sp) : Prop :=
  ∃ (f : Addr) (fd : FuncData), FnOk P w K mg base CX k f fd ["self", "many", "common"] sp ∧ Mk K C f ∧ mg x = some (.ref C) ∧ KBn K fd ["self", "many", "common"] 2 ["common"] (fun us ws => us ++ ws) (fun vs zs => vs ++ zs)
section
variable {X : Cx} {CX : CXT} {k : Nat} {C : Addr} {sp : Sp} {x : Str} {p pos : Pos} {e : Expr} {kws : List Keyword} {t tk : TA}
theorem pe_mkD {E : XK} (D : Cn X.prog X.w X.K X.mg X.base CX k C x sp) (hr : Room (k + 1) X.A) (hg : Gl X x) (hx : Passes CX X E) (ha : PA X [e] t) (hkw : PK X kws tk)
    (hall : (backToKw pos (keywordEach kws X.env)).all (·.1.isSome) = true := by rfl) (hks : (backToKw pos (keywordEach kws X.env)).filterMap (·.1) = ([("common" : Str)] : List Str) := by rfl) (hdb : (x == ("__debug__" : Str)) = false := by decide)
    (he : starEach [e] X.env = (false, eval e X.env) :: starEach [] X.env := by rfl) (hpl : ((backTo pos (starEach [e] X.env)).any (·.1) || (backToKw pos (keywordEach kws X.env)).any (·.1.isNone)) = false := by rfl) :
    PE X (.Call (.Name x p) [e] kws pos) (tMakeK C 1 1 sp (fun vs zs => vs ++ zs) E t tk) := by
  obtain ⟨f, fd, F, M, m, b⟩ := D
  exact pe_makeK M F hr hg m b hx ha hkw hall hks hdb he hpl
def tMakeAt (C : Addr) (sp : Sp) (E : St → XK) (t tk : TA) : TE := fun σ H Q => t σ H fun vs H1 => tk σ H1 fun zs H2 => vs.length = 1 ∧ zs.length = 1 ∧ ∀ x dx, H2 x = none → H2 dx = none → dx ≠ x →
  sp ((.ref x :: vs) ++ zs) (upd (upd H2 dx (.own x)) x (.ins C dx [])) (fun v H3 => v = .non ∧ Q (.ref x) H3) (E σ)
theorem pe_mkSD {E : St → XK} (D : Cn X.prog X.w X.K X.mg X.base CX k C x sp) (hr : Room (k + 1) X.A) (hg : Gl X x) (hx : ∀ σ, PassesAt CX X σ (E σ)) (ha : PA X [e] t) (hkw : PK X kws tk)
    (hall : (backToKw pos (keywordEach kws X.env)).all (·.1.isSome) = true := by rfl) (hks : (backToKw pos (keywordEach kws X.env)).filterMap (·.1) = ([("common" : Str)] : List Str) := by rfl) (hdb : (x == ("__debug__" : Str)) = false := by decide)
    (he : starEach [e] X.env = (false, eval e X.env) :: starEach [] X.env := by rfl) (hpl : ((backTo pos (starEach [e] X.env)).any (·.1) || (backToKw pos (keywordEach kws X.env)).any (·.1.isNone)) = false := by rfl) :
    PE X (.Call (.Name x p) [e] kws pos) (tMakeAt C sp E t tk) := by
  obtain ⟨f, fd, F, M, m, hb⟩ := D
  refine ⟨fun pins s σ H Q I h => wpAny_Call_Name_kw (ld_glob I hg m (PySem.W.callWith_KW (h₀ := X.base) I.ok.mod.kin M.kp hall (thn (ha.run pos pins s σ H _ I h) fun us s1 hh => ?_) hpl he) hdb)⟩
  obtain ⟨vs, H1, I1, r, q⟩ := hh
  refine thn (hkw.run pos pins s1 σ H1 _ I1 q) fun ws s2 hh => ?_
  obtain ⟨zs, H2, I2, rz, l1, l2, q2⟩ := hh
  refine ⟨I2.kIn, ?_⟩
  rw [hks]
  obtain ⟨y, ey⟩ : ∃ y, y = s2.heap.objs.size := ⟨_, rfl⟩
  have hq := q2 (y + 1) y (I2.hok.fresh (by omega)) (I2.hok.fresh (by omega)) (Nat.ne_of_lt (Nat.lt_succ_self y))
  subst ey
  have J := Inv.made (C := C) I2
  have n1 : (Value.ref (s2.heap.objs.size + 1) :: us).length = 2 := by rw [List.length_cons, ← r.length, l1]
  have n2 : ws.length = 1 := by rw [← rz.length, l2]
  have b2 := hb.to _ (Value.ref (s2.heap.objs.size + 1) :: us) ws J.kIn n1 n2
  have r2 : Vals ((V.ref (s2.heap.objs.size + 1) :: vs) ++ zs) ((Value.ref (s2.heap.objs.size + 1) :: us) ++ ws) := Vals.append (.cons rfl r) rz
  refine wpAny_call (make_map (f := f) I2.kIn M.makes M.init (beq_iff_eq.mp M.fn) (codeAny_mono (F.run _ X.stack _ _ ⟨_, ([("common" : Str)] : List Str).zip ws⟩ _ _ _ (E σ) (hr.make C us _) (J.env0.make C us _) b2 r2 hq) fun rr s' hq' => ?_))
  cases rr with
  | error e => exact hx σ pins _ _ e s' J hq'
  | ok fl =>
    cases fl with
    | ret u =>
      obtain ⟨v, H', I3, rv, ev, q3⟩ := J.after hq'
      subst ev
      exact ⟨rv, V.ref _, H', I3, rfl, q3⟩
    | next => exact False.elim hq'
    | brk => exact False.elim hq'
    | cont => exact False.elim hq'
end
end Gs
namespace Gs
open PySem L2
def Cn1 (P : Program) (w : World) (K : PySem.W.Frag) (mg : Str → Option Value) (base : Heap) (CX : CXT) (k : Nat) (C : Addr) (x : Str) (sp : Sp) : Prop :=
  ∃ (f : Addr) (fd : FuncData) (ds : List Value), FnOk P w K mg base CX k f fd ["self", "many", "common"] sp ∧ Mk K C f ∧ mg x = some (.ref C) ∧ Vals [.int 1] ds ∧ Binds K fd ["self", "many", "common"] ds
theorem pe_mk1D {X : Cx} {CX : CXT} {k : Nat} {C : Addr} {sp : Sp} {x : Str} {p pos : Pos} {e : Expr} {t : TA} {E : XK} (D : Cn1 X.prog X.w X.K X.mg X.base CX k C x sp) (hr : Room (k + 1) X.A) (hg : Gl X x) (hx : Passes CX X E) (ha : PA X [e] t) (hdb : (x == ("__debug__" : Str)) = false := by decide)
    (he : starEach [e] X.env = (false, eval e X.env) :: starEach [] X.env := by rfl) (hpl : (backTo pos (starEach [] X.env)).any (·.1) = false := by rfl) : PE X (.Call (.Name x p) [e] [] pos) (tMake C sp [.int 1] E t) := by
  obtain ⟨f, fd, ds, F, M, m, v, b⟩ := D
  exact pe_make M F hr hg m b v hx ha hdb he hpl
def EqR0 (C : Addr) (a b : Addr) (H : Hp) : Prop := ∃ d e n c, SzW C H a d ⟨n, c, []⟩ ∧ SzW C H b e ⟨n, c, []⟩
theorem op_eqOwn {X : Cx} {CX : CXT} {k : Nat} {C : Addr} {ps : List Str} {R : Addr → Addr → Hp → Prop} {E : XK} (D : Mn X.prog X.w X.K X.mg X.base CX k C "__eq__" ps (spEq R)) (hr : Room k X.A) (hx : Passes CX X E) : OpR X (compareOp .Eq) (rEqG (DIns C R)) := by
  obtain ⟨f, fd, F, hm, b⟩ := D
  exact op_eqG (rcG_ins F hm.at_ hm.fn b hx) hr
theorem new2 {H : Hp} {x dx : Addr} (hx : H x = none) (hd : H dx = none) (ne : dx ≠ x) (o u : HO) : Same H (upd (upd H dx o) x u) := fun b v q => by
  rw [upd_ne (ne_of_none q hx), upd_ne (ne_of_none q hd)]
  exact q
def goodS (n c : Int) : Prop := (1 ≤ n ∧ n ≤ 1000000) ∧ (1 ≤ c ∧ c ≤ 60)
def spMade (C : Addr) : Sp := fun vs H Q _ => ∃ n c : Int, vs = [.int n, .int c] ∧ Sm n ∧ Sm c ∧ (goodS n c → ∀ (p d : Addr) (H' : Hp), Same H H' → SzW C H' p d ⟨n, c, []⟩ → Q (.ref p) H') ∧
  (¬ goodS n c → ∀ (l : Addr) (H' : Hp), Same H H' → H' l = some (.lst [.bl (!decide (1 ≤ n ∧ n ≤ 1000000)), .bl (decide (1 ≤ n ∧ n ≤ 1000000)), .bl true]) → Q (.ref l) H')
def spRef (C : Addr) : Sp := fun vs H Q _ => ∃ (p d : Addr) (z : Sz) (i way : Int), vs = [.ref p, .int i, .int way] ∧ SzW C H p d z ∧ Sm i ∧ (0 ≤ way ∧ way < 4) ∧ (way = 3 → ¬ (0 ≤ i ∧ i ≤ z.many)) ∧ (way ≠ 3 → ¬ inR z i) ∧ ∀ H', Same H H' → Q (.bl true) H'
theorem merge_zL (n c : Int) (o g : Addr) : mergeK [] (zL n c o g) = zL n c o g := by
  simp [mergeK, zL, putK, nz1, nz2, nz3, nz4, nz5, nz6]
end Gs

set_option Elab.async false
set_option linter.all false
set_option maxRecDepth 100000
set_option maxHeartbeats 4000000
namespace K01
open PySem L2 Gs
def top (i : Nat) : Stmt := PySem.Challenge.pw_gridscope_k01_rows_of_sizes_begun.main.body.getD i (.Pass ⟨0, 0, 0, 0⟩)
structure Tx (K : PySem.W.Frag) (mg : Str → Option Value) (C cN cP cM cS cF : Addr) (tG tM tO tU : Tok) : Prop where
  no_max : mg "max" = none
  no_min : mg "min" = none
  no_len : mg "len" = none
  no_list : mg "list" = none
  no_isinstance : mg "isinstance" = none
  no_bool : mg "bool" = none
  no_int : mg "int" = none
  no_str : mg "str" = none
  no_tuple : mg "tuple" = none
  no_range : mg "range" = none
  no_all : mg "all" = none
  no_sum : mg "sum" = none
  no_sorted : mg "sorted" = none
  no_any : mg "any" = none
  no_dict : mg "dict" = none
  no_repr : mg "repr" = none
  mg_GREATEST_SIZE : mg "GREATEST_SIZE" = some (.int 60 tG)
  mg_MOST_THINGS : mg "MOST_THINGS" = some (.int 1000000 tM)
  cl : Cls K C
  n_many : NoAttr K C "many"
  n_common : NoAttr K C "common"
  n_odd : NoAttr K C "odd"
  mgC : mg "Sizes" = some (.ref C)
  ins : C8.InsC K C
  x_NoIndex : ExcOk K mg "NoIndex" cN ieL "IndexError.__new__"
  x_BadMany : ExcOk K mg "BadMany" cM veL "ValueError.__new__"
  x_BadSize : ExcOk K mg "BadSize" cS veL "ValueError.__new__"
  mg_COMMON : mg "COMMON" = some (.int 1 tO)
section
variable {P : Program} {w : World} {K : PySem.W.Frag} {mg : Str → Option Value} {base : Heap} {f : Addr} {fd : FuncData} {C cN cP cM cS cF : Addr} {tG tM tO tU : Tok}
abbrev s_check_size : Stmt := top 11
theorem sc_check_size : FnScope ["size"] ["size"] (defScope s_check_size) := ⟨rfl, rfl, rfl, by decide +kernel, rfl, by decide +kernel, by decide +kernel⟩
theorem ok_cs (F : Fun K "check_size" "check_size" s_check_size f fd) (T : Tx K mg C cN cP cM cS cF tG tM tO tU)  : FnOk P w K mg base (L2.CX P w) 1 f fd ["size"] (spCS cS) := by
  refine F.okX sc_check_size (fun vs H Q E h => ?_) (fun cdv A outer s H vs Q E hr h => ?_)
  · obtain ⟨i, rfl, _⟩ := h
    rfl
  · obtain ⟨i, rfl, hi, k1, k2⟩ := h
    refine ⟨_, (pss_one (ps_if (PW.pt (pw_or (pt_cmpR op_lt (pv 0) pe_int (nomark _)) (pw_or1 (pt_cmpR op_gt (pv 0) (glI (by rfl) T.mg_GREATEST_SIZE) (nomark _))))) (pss_one (ps_raise rfl (takes_of rfl rfl rfl rfl) (SkE.pmk_own1 PySem.F.excBase_ValueError T.x_BadSize.ex T.x_BadSize.g T.x_BadSize.kp (raises_own T.x_BadSize.b T.x_BadSize.t) (by rfl) (pe_joined (.cons (pe_fmt (pv 0)) (.cons pe_str (.cons (pe_fmt (glI (by rfl) T.mg_GREATEST_SIZE)) .nil))))))) pss_nil)), ?_⟩
    have bad : ¬ (1 ≤ i ∧ i ≤ 60) → tJs [tFmt (tVar 0), tC (.str " is no size from 1 to "), tFmt (tC (.int 60))] Str.empty (start ["size"] [.int i]) H fun _ H1 => E (.ref cS) none H1 := fun no => by
      have l1 := hi.len
      refine ⟨_, rfl, .inr ⟨_, rfl, hi.log, _, rfl, ?_, _, rfl, ?_, .inr ⟨_, rfl, by decide, _, rfl, ?_, k2 no⟩⟩⟩
      · exact small (by rw [PySem.Str.length_append]; show 0 + _ ≤ 1000; omega)
      · exact small (by rw [PySem.Str.length_append, PySem.Str.length_append]; show 0 + _ + 22 ≤ 1000; omega)
      · exact small (by rw [PySem.Str.length_append, PySem.Str.length_append, PySem.Str.length_append]; show 0 + _ + 22 + 2 ≤ 1000; omega)
    refine ⟨_, rfl, _, _, rfl, rfl, _, rfl, ?_⟩
    refine ite2 (fun c => ?_) (fun c => ?_)
    · have c' : i < 1 := of_decide_eq_true c
      exact ifT rfl (bad (by omega))
    · have c' : ¬ i < 1 := fun q => c (decide_eq_true q)
      refine ⟨_, rfl, _, _, rfl, rfl, _, rfl, ?_⟩
      refine ite2 (fun c2 => ?_) (fun c2 => ?_)
      · have c2' : (60 : Int) < i := of_decide_eq_true c2
        exact bad (by omega)
      · have c2' : ¬ (60 : Int) < i := fun q => c2 (decide_eq_true q)
        exact k1 (by omega)
abbrev s_check_number : Stmt := top 12
theorem sc_check_number : FnScope ["number", "count"] ["number", "count"] (defScope s_check_number) := ⟨rfl, rfl, rfl, by decide +kernel, rfl, by decide +kernel, by decide +kernel⟩
theorem ok_cn (F : Fun K "check_number" "check_number" s_check_number f fd) (T : Tx K mg C cN cP cM cS cF tG tM tO tU)  : FnOk P w K mg base (L2.CX P w) 1 f fd ["number", "count"] (spNum cN) := by
  refine F.okX sc_check_number (fun vs H Q E h => ?_) (fun cdv A outer s H vs Q E hr h => ?_)
  · obtain ⟨i, n, rfl, _⟩ := h
    rfl
  · obtain ⟨i, n, rfl, hi, hn, k1, k2⟩ := h
    refine ⟨_, (pss_one (ps_if (PW.pt (pw_or (pt_cmpR op_lt (pv 0) pe_int (nomark _)) (pw_or1 (pt_cmpR op_ge (pv 0) (pv 1) (nomark _))))) (pss_one (ps_raise rfl (takes_of rfl rfl rfl rfl) (SkE.pmk_own1 PySem.F.excBase_IndexError T.x_NoIndex.ex T.x_NoIndex.g T.x_NoIndex.kp (raises_own T.x_NoIndex.b T.x_NoIndex.t) (by rfl) (pe_joined (.cons (pe_fmt (pv 0)) (.cons pe_str (.cons (pe_fmt (pv 1)) .nil))))))) pss_nil)), ?_⟩
    have bad : ¬ (0 ≤ i ∧ i < n) → tJs [tFmt (tVar 0), tC (.str " is no number below "), tFmt (tVar 1)] Str.empty (start ["number", "count"] [.int i, .int n]) H fun _ H1 => E (.ref cN) none H1 := fun no => by
      have l1 := hi.len
      have l2 := hn.len
      refine ⟨_, rfl, .inr ⟨_, rfl, hi.log, _, rfl, ?_, _, rfl, ?_, _, rfl, .inr ⟨_, rfl, hn.log, _, rfl, ?_, k2 no⟩⟩⟩
      · exact small (by rw [PySem.Str.length_append]; show 0 + _ ≤ 1000; omega)
      · exact small (by rw [PySem.Str.length_append, PySem.Str.length_append]; show 0 + _ + 20 ≤ 1000; omega)
      · exact small (by rw [PySem.Str.length_append, PySem.Str.length_append, PySem.Str.length_append]; show 0 + _ + 20 + _ ≤ 1000; omega)
    refine ⟨_, rfl, _, _, rfl, rfl, _, rfl, ?_⟩
    refine ite2 (fun c => ?_) (fun c => ?_)
    · have c' : i < 0 := of_decide_eq_true c
      exact ifT rfl (bad (by omega))
    · have c' : ¬ i < 0 := fun q => c (decide_eq_true q)
      refine ⟨_, rfl, _, rfl, _, _, rfl, rfl, _, rfl, ?_⟩
      refine ite2 (fun c2 => ?_) (fun c2 => ?_)
      · have c2' : n ≤ i := of_decide_eq_true c2
        exact bad (by omega)
      · have c2' : ¬ n ≤ i := fun q => c2 (decide_eq_true q)
        exact k1 (by omega)
abbrev s_Sizes_init : Stmt := inClass (top 13) 0
theorem sc_Sizes_init : FnScope ["self", "many", "common"] ["self", "many", "common"] (defScope s_Sizes_init) := ⟨rfl, rfl, rfl, by decide +kernel, rfl, by decide +kernel, by decide +kernel⟩
theorem ok_init (F : Fun K "__init__" "Sizes.__init__" s_Sizes_init f fd) (T : Tx K mg C cN cP cM cS cF tG tM tO tU) (D_check_size : Dn P w K mg base (L2.CX P w) 1 "check_size" ["size"] (spCS cS)) : FnOk P w K mg base (L2.CX P w) 2 f fd ["self", "many", "common"] (spInit C cM cS) := by
  refine F.okX sc_Sizes_init (fun vs H Q E h => ?_) (fun cdv A outer s H vs Q E hr h => ?_)
  · obtain ⟨p, dx, n, c, rfl, _⟩ := h
    rfl
  · obtain ⟨p, dx, n, c, rfl, hp, hn, hc, k1, k2, k3⟩ := h
    refine ⟨_, (pss_cons (ps_if (PW.pt (pw_or (pt_cmpR op_lt (pv 1) pe_int (nomark _)) (pw_or1 (pt_cmpR op_gt (pv 1) (glI (by rfl) T.mg_MOST_THINGS) (nomark _))))) (pss_one (ps_raise rfl (takes_of rfl rfl rfl rfl) (SkE.pmk_own1 PySem.F.excBase_ValueError T.x_BadMany.ex T.x_BadMany.g T.x_BadMany.kp (raises_own T.x_BadMany.b T.x_BadMany.t) (by rfl) (pe_joined (.cons (pe_fmt (pv 1)) (.cons pe_str (.cons (pe_fmt (glI (by rfl) T.mg_MOST_THINGS)) .nil))))))) pss_nil)
      (pss_cons (ps_expr (pe_callD D_check_size (hr.mono (by omega)) (by rfl) (passes_call (takes_of rfl rfl rfl rfl) (fun _ _ _ _ h => h)) (pa_cons (pv 2) pa_nil)))
      (pss_cons (ps_fld (pv 0) (pv 1) rfl)
      (pss_cons (ps_fld (pv 0) (pv 2) rfl)
      (pss_one (ps_fld (pv 0) pe_dnewK rfl)))))), ?_⟩
    have bad : ¬ (1 ≤ n ∧ n ≤ 1000000) → tJs [tFmt (tVar 1), tC (.str " is no count from 1 to "), tFmt (tC (.int 1000000))] Str.empty (start ["self", "many", "common"] [.ref p, .int n, .int c]) H fun _ H1 => E (.ref cM) none H1 := fun no => by
      have l1 := hn.len
      refine ⟨_, rfl, .inr ⟨_, rfl, hn.log, _, rfl, ?_, _, rfl, ?_, .inr ⟨_, rfl, by decide, _, rfl, ?_, k2 no⟩⟩⟩
      · exact small (by rw [PySem.Str.length_append]; show 0 + _ ≤ 1000; omega)
      · exact small (by rw [PySem.Str.length_append, PySem.Str.length_append]; show 0 + _ + 23 ≤ 1000; omega)
      · exact small (by rw [PySem.Str.length_append, PySem.Str.length_append, PySem.Str.length_append]; show 0 + _ + 23 + 7 ≤ 1000; omega)
    refine ⟨_, rfl, _, _, rfl, rfl, _, rfl, ?_⟩
    refine ite2 (fun c1 => ?_) (fun c1 => ?_)
    · have c' : n < 1 := of_decide_eq_true c1
      exact ifT rfl (bad (by omega))
    · have c' : ¬ n < 1 := fun q => c1 (decide_eq_true q)
      refine ⟨_, rfl, _, _, rfl, rfl, _, rfl, ?_⟩
      refine ite2 (fun c2 => ?_) (fun c2 => ?_)
      · have c2' : (1000000 : Int) < n := of_decide_eq_true c2
        exact bad (by omega)
      · have c2' : ¬ (1000000 : Int) < n := fun q => c2 (decide_eq_true q)
        have yes : 1 ≤ n ∧ n ≤ 1000000 := by omega
        refine ⟨_, rfl, c, rfl, hc, fun yc => ?_, fun no => k3 yes no⟩
        refine ⟨_, rfl, _, rfl, p, C, dx, [], rfl, hp, T.cl, T.n_many, (by show 0 < 1000; decide), ?_⟩
        refine ⟨_, rfl, _, rfl, p, C, dx, _, rfl, upd_same, T.cl, T.n_common, (by show 1 < 1000; decide), fun d hd => ?_⟩
        rw [upd_upd] at hd
        have npd : p ≠ d := by
          intro e
          rw [e, upd_same] at hd
          cases hd
        have hd0 : H d = none := by rw [upd_ne npd.symm] at hd; exact hd
        refine ⟨_, rfl, p, C, dx, _, rfl, (by rw [upd_ne npd, upd_same]), T.cl, T.n_odd, (by show 2 < 1000; decide), ?_⟩
        refine k1 ⟨yes, yc⟩ d _ hd0 ⟨dx, [], upd_same, by rw [upd_ne npd.symm, upd_same], .nil, ⟨yes.1, by show n ≤ 1000000000; omega, yc.1, yc.2, List.nodup_nil, Nat.zero_le _, fun e he => nomatch he⟩⟩ fun b o e hb => ?_
        rw [upd_ne hb, upd_ne (ne_of_none e hd0), upd_ne hb, upd_ne hb]
        exact e
abbrev s_Sizes_state : Stmt := inClass (top 13) 3
theorem sc_Sizes_state : FnScope ["self", "number"] ["self", "number"] (defScope s_Sizes_state) := ⟨rfl, rfl, rfl, by decide +kernel, rfl, by decide +kernel, by decide +kernel⟩
theorem ok_state (F : Fun K "state" "Sizes.state" s_Sizes_state f fd) (T : Tx K mg C cN cP cM cS cF tG tM tO tU) (D_check_number : Dn P w K mg base (L2.CX P w) 1 "check_number" ["number", "count"] (spNum cN)) : FnOk P w K mg base (L2.CX P w) 2 f fd ["self", "number"] (spState C cN) := by
  refine F.okX sc_Sizes_state (fun vs H Q E h => ?_) (fun cdv A outer s H vs Q E hr h => ?_)
  · obtain ⟨p, d, z, i, rfl, _⟩ := h
    rfl
  · obtain ⟨p, d, z, i, rfl, S, hi, k1, k2⟩ := h
    have hu := hu_of hr
    obtain ⟨dx, kvs, h1, h2, h3, W⟩ := S
    have W' := W
    obtain ⟨m0, m1, c0, c1, nd, le, ok⟩ := W'
    refine ⟨_, (pss_cons (ps_expr (pe_callD D_check_number (hr.mono (by omega)) (by rfl) (passes_call (takes_of rfl rfl rfl rfl) (fun _ _ _ _ h => h)) (pa_cons (pv 1) (pa_cons (pe_fld (pv 0) rfl) pa_nil))))
      (pss_one (ps_ret (pe_dget2 hu (pe_fld (pv 0) rfl) (pv 1) (pe_tup (pa_cons (pe_fld (pv 0) rfl) (pa_cons pe_bl pa_nil))) ⟨rfl, rfl, rfl, rfl⟩)))), ?_⟩
    refine ⟨_, rfl, _, rfl, p, C, dx, _, _, rfl, h1, T.cl, T.n_many, fz_many _ _ _, i, z.many, rfl, hi, Sm.of (by omega) (by omega), fun yes => ?_, k2⟩
    refine ⟨_, rfl, p, C, dx, _, _, rfl, h1, T.cl, T.n_odd, fz_odd _ _ _, d, rfl, .inl ⟨kvs, h2⟩, _, rfl, _, rfl, p, C, dx, _, _, rfl, h1, T.cl, T.n_common, fz_common _ _ _, (by show 2 ≤ sizeLine; decide), fun t ht => ?_⟩
    have s1 := same_new ht (.tup [.int z.common, .bl false])
    refine ⟨_, .inl ⟨kvs, Sum.inl i, Same.rd s1 h2, rfl, rfl⟩, ?_⟩
    have key : stM z i = (look z.odd i).getD (z.common, false) := rfl
    rcases h3.look i with ⟨e1, e2⟩ | ⟨u, x, e1, e2, e3⟩
    · rw [e1]
      rw [e2] at key
      exact k1 yes t _ s1 (by rw [key]; exact upd_same)
    · rw [e1]
      rw [e2] at key
      exact k1 yes u _ s1 (by rw [key]; exact s1 _ _ e3)
abbrev s_Sizes_size : Stmt := inClass (top 13) 4
theorem sc_Sizes_size : FnScope ["self", "number", "own", "hidden"] ["self", "number"] (defScope s_Sizes_size) := ⟨rfl, rfl, rfl, by decide +kernel, rfl, by decide +kernel, by decide +kernel⟩
theorem ok_size (F : Fun K "size" "Sizes.size" s_Sizes_size f fd) (T : Tx K mg C cN cP cM cS cF tG tM tO tU) (M_state : Mn P w K mg base (L2.CX P w) 2 C "state" ["self", "number"] (spState C cN)) : FnOk P w K mg base (L2.CX P w) 3 f fd ["self", "number"] (spSize C cN) := by
  refine F.okX sc_Sizes_size (fun vs H Q E h => ?_) (fun cdv A outer s H vs Q E hr h => ?_)
  · obtain ⟨p, d, z, i, rfl, _⟩ := h
    rfl
  · obtain ⟨p, d, z, i, rfl, S, hi, k1, k2⟩ := h
    obtain ⟨dx, kvs, h1, h2, h3, W⟩ := id S
    refine ⟨_, (pss_cons (ps_asg (pe_methD T.cl M_state (hr.mono (by omega)) (passes_call (takes_of rfl rfl rfl rfl) (fun _ _ _ _ h => h)) (pv 0) (pa_cons (pv 1) pa_nil)) (pg_tup (by rfl) (pgs_cons (pg_name (i := 2) sc_Sizes_size.nd rfl (.inl rfl)) (pgs_cons (pg_name (i := 3) sc_Sizes_size.nd rfl (.inl rfl)) pgs_nil))))
      (pss_one (ps_ret (pe_ifExp (pt_val (pv 3)) pe_int (pv 2))))), ?_⟩
    refine ⟨_, rfl, p, dx, _, rfl, h1, fz_no _ _ _, _, rfl, p, d, z, i, rfl, S, hi, fun yes t H1 s1 e1 => ?_, k2⟩
    refine ⟨_, _, rfl, SqT.of e1, rfl, _, _, rfl, _, _, rfl, rfl, ?_⟩
    refine ⟨_, rfl, _, rfl, ?_⟩
    have kk : Q (.int (szM z i)) H1 := k1 yes H1 s1
    unfold szM at kk
    refine ite2 (fun c => ?_) (fun c => ?_)
    · rw [if_pos c] at kk
      exact kk
    · rw [if_neg c] at kk
      exact ⟨_, rfl, kk⟩
abbrev s_Sizes_own : Stmt := inClass (top 13) 5
theorem sc_Sizes_own : FnScope ["self", "number"] ["self", "number"] (defScope s_Sizes_own) := ⟨rfl, rfl, rfl, by decide +kernel, rfl, by decide +kernel, by decide +kernel⟩
theorem ok_own (F : Fun K "own" "Sizes.own" s_Sizes_own f fd) (T : Tx K mg C cN cP cM cS cF tG tM tO tU) (M_state : Mn P w K mg base (L2.CX P w) 2 C "state" ["self", "number"] (spState C cN)) : FnOk P w K mg base (L2.CX P w) 3 f fd ["self", "number"] (spOwn C cN) := by
  refine F.okX sc_Sizes_own (fun vs H Q E h => ?_) (fun cdv A outer s H vs Q E hr h => ?_)
  · obtain ⟨p, d, z, i, rfl, _⟩ := h
    rfl
  · obtain ⟨p, d, z, i, rfl, S, hi, k1, k2⟩ := h
    obtain ⟨dx, kvs, h1, h2, h3, W⟩ := id S
    refine ⟨_, (pss_one (ps_ret (pe_ix ix_tup (pe_methD T.cl M_state (hr.mono (by omega)) (passes_call (takes_of rfl rfl rfl rfl) (fun _ _ _ _ h => h)) (pv 0) (pa_cons (pv 1) pa_nil)) pe_int (fun _ _ => rfl)))), ?_⟩
    refine ⟨_, rfl, p, dx, _, rfl, h1, fz_no _ _ _, _, rfl, p, d, z, i, rfl, S, hi, fun yes t H1 s1 e1 => ?_, k2⟩
    exact ⟨_, _, _, _, rfl, rfl, SqT.of e1, atI_nat (j := 0) rfl, k1 yes H1 s1⟩
abbrev s_Sizes_hidden : Stmt := inClass (top 13) 6
theorem sc_Sizes_hidden : FnScope ["self", "number"] ["self", "number"] (defScope s_Sizes_hidden) := ⟨rfl, rfl, rfl, by decide +kernel, rfl, by decide +kernel, by decide +kernel⟩
theorem ok_hidden (F : Fun K "hidden" "Sizes.hidden" s_Sizes_hidden f fd) (T : Tx K mg C cN cP cM cS cF tG tM tO tU) (M_state : Mn P w K mg base (L2.CX P w) 2 C "state" ["self", "number"] (spState C cN)) : FnOk P w K mg base (L2.CX P w) 3 f fd ["self", "number"] (spHid C cN) := by
  refine F.okX sc_Sizes_hidden (fun vs H Q E h => ?_) (fun cdv A outer s H vs Q E hr h => ?_)
  · obtain ⟨p, d, z, i, rfl, _⟩ := h
    rfl
  · obtain ⟨p, d, z, i, rfl, S, hi, k1, k2⟩ := h
    obtain ⟨dx, kvs, h1, h2, h3, W⟩ := id S
    refine ⟨_, (pss_one (ps_ret (pe_ix ix_tup (pe_methD T.cl M_state (hr.mono (by omega)) (passes_call (takes_of rfl rfl rfl rfl) (fun _ _ _ _ h => h)) (pv 0) (pa_cons (pv 1) pa_nil)) pe_int (fun _ _ => rfl)))), ?_⟩
    refine ⟨_, rfl, p, dx, _, rfl, h1, fz_no _ _ _, _, rfl, p, d, z, i, rfl, S, hi, fun yes t H1 s1 e1 => ?_, k2⟩
    exact ⟨_, _, _, _, rfl, rfl, SqT.of e1, atI_nat (j := 1) rfl, k1 yes H1 s1⟩
abbrev s_Sizes_ahead : Stmt := inClass (top 13) 7
theorem sc_Sizes_ahead : FnScope ["self", "number", "more", "each"] ["self", "number"] (defScope s_Sizes_ahead) := ⟨rfl, rfl, rfl, by decide +kernel, rfl, by decide +kernel, by decide +kernel⟩
theorem ok_ahead (F : Fun K "ahead" "Sizes.ahead" s_Sizes_ahead f fd) (T : Tx K mg C cN cP cM cS cF tG tM tO tU) (D_check_number : Dn P w K mg base (L2.CX P w) 1 "check_number" ["number", "count"] (spNum cN)) (M_size : Mn P w K mg base (L2.CX P w) 3 C "size" ["self", "number"] (spSize C cN)) : FnOk P w K mg base (L2.CX P w) 4 f fd ["self", "number"] (spAhead C cN) := by
  refine F.okX sc_Sizes_ahead (fun vs H Q E h => ?_) (fun cdv A outer s H vs Q E hr h => ?_)
  · obtain ⟨p, d, z, i, rfl, _⟩ := h
    rfl
  · obtain ⟨p, d, z, i, rfl, S, hi, k1, k2⟩ := h
    obtain ⟨dx, kvs, h1, h2, h3, W⟩ := id S
    have W' := W
    obtain ⟨m0, m1, c0, c1, nd, le, ok⟩ := W'
    have npd : p ≠ d := ne_of h1 h2 (by intro e; cases e)
    refine ⟨_, (pss_cons (ps_expr (pe_callD D_check_number (hr.mono (by omega)) (by rfl) (passes_call (takes_of rfl rfl rfl rfl) (fun _ _ _ _ h => h)) (pa_cons (pv 1) (pa_cons (pe_op op_add (pe_fld (pv 0) rfl) pe_int) pa_nil))))
      (pss_cons (ps_set (i := 2) sc_Sizes_ahead.nd rfl (.inl rfl) (pe_callB (cr_sum rfl) (by rfl) T.no_sum (by decide +kernel) (pa_cons (pe_lock (pe_lc (own := [("each", 3)]) (g := gName 3) rfl sc_Sizes_ahead.nd (pi_keys (pe_fld (pv 0) rfl)) (blkOk_by (N := ["self", "number", "more", "each"]) (sc := defScope s_Sizes_ahead) (by decide +kernel)) (fun _ _ _ _ _ => (pg_name (i := 3) sc_Sizes_ahead.nd rfl (Or.inl rfl))) (fun _ _ _ _ _ => (pts_one (pt_cmpR op_lt (pv 3) (pv 1) (nomark _)))) (fun _ _ _ _ _ => (pe_op op_sub (pe_methD T.cl M_size (hr.mono (by omega)) passL (pv 0) (pa_cons (pv 3) pa_nil)) (fldK (K := K) rfl (pv 0) rfl))))) pa_nil)))
      (pss_one (ps_ret (pe_op op_add (pe_op op_mul (pv 1) (pe_fld (pv 0) rfl)) (pv 2)))))), ?_⟩
    refine ⟨_, rfl, _, rfl, p, C, dx, _, _, rfl, h1, T.cl, T.n_many, fz_many _ _ _, _, _, rfl, rfl, i, z.many + 1, rfl, hi, Sm.of (by omega) (by omega), fun yes => ?_, fun no => k2 (fun y => no (by omega))⟩
    refine ⟨d, _, h2, trivial, fun od => ?_⟩
    obtain ⟨HL, eL⟩ : ∃ HL, HL = upd H d (.frz od (.dK kvs)) := ⟨_, rfl⟩
    have hLd : HL d = some (.frz od (.dK kvs)) := by rw [eL]; exact upd_same
    have hLp : HL p = some (.ins C dx (fldZ z.many z.common d)) := by rw [eL, upd_ne npd]; exact h1
    have tsL : TupSame H HL := by rw [eL]; exact TupSame.upd h2 (fun xs e => by cases e) _
    have SL : SzR C HL p d z := ⟨dx, kvs, hLp, .inr ⟨od, hLd⟩, h3.mono tsL, W⟩
    rw [← eL]
    refine ⟨_, rfl, p, C, dx, _, _, rfl, hLp, T.cl, T.n_odd, fz_odd _ _ _, d, od, rfl, .inl ⟨kvs, hLd, fun D hD => ?_⟩⟩
    refine lc_it walk_keys (fun j H2 => Same HL H2 ∧ H2 D = some (.lst (((((z.odd.map (·.1)).take j).filter fun k => decide (k < i)).map fun k => szM z k - z.common).map V.int))) ⟨same_new hD _, upd_same⟩ (fun j H2 _ q => q.1 _ _ hLd) ?_ ?_
    · rintro j x H2 H2' hj ⟨s2, e2⟩ ⟨rfl, kk, vv, ekv, rfl⟩
      obtain ⟨e, ee, eq1⟩ := h3.at_ ekv
      subst eq1
      have hm := ok e (List.mem_of_getElem? ee)
      have ek : (z.odd.map (·.1))[j]? = some e.1 := by rw [List.getElem?_map, ee]; rfl
      refine ⟨rfl, ?_⟩
      refine ⟨_, rfl, _, rfl, _, _, rfl, rfl, _, rfl, ?_⟩
      refine ite2 (fun q => ?_) (fun q => ?_)
      · refine ⟨_, rfl, p, dx, _, rfl, s2 _ _ hLp, fz_no _ _ _, _, rfl, p, d, z, e.1, rfl, SL.same s2, Sm.of (by omega) (by omega), fun _ H3 s3 => ?_, fun no => absurd ⟨hm.1, hm.2.1⟩ no⟩
        refine ⟨_, rfl, p, C, dx, _, _, rfl, s3 _ _ (s2 _ _ hLp), T.cl, T.n_common, fz_common _ _ _, _, _, rfl, rfl, _, s3 _ _ e2, ?_, ?_, ?_⟩
        · refine Nat.lt_of_le_of_lt ?_ (show 60 < sizeLine by decide)
          rw [List.length_map, List.length_map]
          refine Nat.le_trans (List.length_filter_le _ _) (Nat.le_trans (List.length_take_le' _ _) ?_)
          rw [List.length_map]
          exact le
        · intro b' o z'
          rw [upd_ne (ne_of_none z' hD)]
          exact s3 _ _ (s2 _ _ z')
        · rw [upd_same, take_filter1 _ _ ek, if_pos q, List.map_append, List.map_append]
          rfl
      · refine ⟨s2, ?_⟩
        rw [take_filter1 _ _ ek, if_neg q, List.append_nil]
        exact e2
    rintro H2 ⟨s2, e2⟩
    have eLen : kvs.length = (z.odd.map (·.1)).length := by rw [List.length_map]; exact h3.len
    rw [eLen, List.take_length] at e2
    have nDd : D ≠ d := ne_of e2 (s2 _ _ hLd) (by intro e; cases e)
    refine ⟨s2 _ _ hLd, _, _, rfl, SqL.of (by rw [upd_ne nDd]; exact e2), ?_⟩
    have sF : Same H (upd H2 d (.dK kvs)) := by
      intro b o q
      by_cases hb : b = d
      · subst hb
        rw [h2] at q
        cases q
        exact upd_same
      · rw [upd_ne hb]
        refine s2 _ _ ?_
        rw [eL, upd_ne hb]
        exact q
    refine ⟨_, rfl, _, rfl, p, C, dx, _, _, rfl, sF _ _ h1, T.cl, T.n_common, fz_common _ _ _, _, _, rfl, rfl, .inr ⟨by omega, by omega⟩, _, rfl, _, _, rfl, rfl, ?_⟩
    exact k1 (by omega) _ sF
abbrev s_Sizes_total : Stmt := inClass (top 13) 8
theorem sc_Sizes_total : FnScope ["self"] ["self"] (defScope s_Sizes_total) := ⟨rfl, rfl, rfl, by decide +kernel, rfl, by decide +kernel, by decide +kernel⟩
theorem ok_total (F : Fun K "total" "Sizes.total" s_Sizes_total f fd) (T : Tx K mg C cN cP cM cS cF tG tM tO tU) (M_ahead : Mn P w K mg base (L2.CX P w) 4 C "ahead" ["self", "number"] (spAhead C cN)) : FnOk P w K mg base CX0 5 f fd ["self"] (spTotal C) := by
  refine F.ok sc_Sizes_total (fun vs H Q E h => ?_) (fun cdv A outer s H vs Q E hr h => ?_)
  · obtain ⟨p, d, z, rfl, _⟩ := h
    rfl
  · obtain ⟨p, d, z, rfl, S, k1⟩ := h
    obtain ⟨dx, kvs, h1, h2, h3, W⟩ := id S
    obtain ⟨m0, m1, c0, c1, nd, le, ok⟩ := W
    refine ⟨_, (pss_one (ps_ret (pe_methD T.cl M_ahead (hr.mono (by omega)) passL (pv 0) (pa_cons (pe_fld (pv 0) rfl) pa_nil)))), ?_⟩
    exact ⟨_, rfl, p, dx, _, rfl, h1, fz_no _ _ _, _, rfl, p, C, dx, _, _, rfl, h1, T.cl, T.n_many, fz_many _ _ _, p, d, z, _, rfl, S, Sm.of (by omega) (by omega), fun _ H1 s1 => k1 H1 s1, fun no => absurd ⟨by omega, Int.le_refl _⟩ no⟩
abbrev s_Sizes_exceptions : Stmt := inClass (top 13) 11
theorem sc_Sizes_exceptions : FnScope ["self", "number"] ["self"] (defScope s_Sizes_exceptions) := ⟨rfl, rfl, rfl, by decide +kernel, rfl, by decide +kernel, by decide +kernel⟩
theorem ok_exceptions (F : Fun K "exceptions" "Sizes.exceptions" s_Sizes_exceptions f fd) (T : Tx K mg C cN cP cM cS cF tG tM tO tU) (M_own : Mn P w K mg base (L2.CX P w) 3 C "own" ["self", "number"] (spOwn C cN)) (M_hidden : Mn P w K mg base (L2.CX P w) 3 C "hidden" ["self", "number"] (spHid C cN)) : FnOk P w K mg base CX0 4 f fd ["self"] (spExc K C) := by
  refine F.ok sc_Sizes_exceptions (fun vs H Q E h => ?_) (fun cdv A outer s H vs Q E hr h => ?_)
  · obtain ⟨p, d, z, rfl, _⟩ := h
    rfl
  · obtain ⟨p, d, z, rfl, S, k1⟩ := h
    obtain ⟨dx, kvs, h1, h2, h3, W⟩ := id S
    obtain ⟨m0, m1, c0, c1, nd, le, ok⟩ := W
    refine ⟨_, (pss_one (ps_ret (pe_lc (own := [("number", 1)]) (g := gName 1) rfl sc_Sizes_exceptions.nd (pi_list (pe_callB (call_sortedDI rfl) (by rfl) T.no_sorted (by decide +kernel) (pa_cons (pe_fld (pv 0) rfl) pa_nil))) (blkOk_by (N := ["self", "number"]) (sc := defScope s_Sizes_exceptions) (by decide +kernel)) (fun _ _ _ _ _ => (pg_name (i := 1) sc_Sizes_exceptions.nd rfl (Or.inl rfl))) (fun _ _ _ _ _ => pts_nil) (fun _ _ _ _ _ => (pe_tup (pa_cons (pv 1) (pa_cons (pe_methD T.cl M_own (hr.mono (by omega)) passL (pv 0) (pa_cons (pv 1) pa_nil)) (pa_cons (pe_methD T.cl M_hidden (hr.mono (by omega)) passL (pv 0) (pa_cons (pv 1) pa_nil)) pa_nil)))))))), ?_⟩
    refine ⟨_, rfl, p, C, dx, _, _, rfl, h1, T.cl, T.n_odd, fz_odd _ _ _, d, kvs, z.odd.map (·.1), rfl, .inl h2, h3.keys, (by rw [List.length_map]; omega), fun ys l perm pw hl => ?_⟩
    have s1 := same_new hl (.lst (ys.map V.int))
    refine ⟨l, rfl, ⟨_, SqL.of upd_same⟩, fun D hD => ?_⟩
    generalize hH1 : upd H l (.lst (ys.map V.int)) = H1 at s1 hD ⊢
    have hl1 : H1 l = some (.lst (ys.map V.int)) := by rw [← hH1]; exact upd_same
    have yl : ys.length ≤ 60 := by rw [perm.length_eq, List.length_map]; exact le
    refine lc_list (K := K) (a := l) (xs := ys.map V.int) (fun j H2 => Same H1 H2 ∧ ∃ acc, H2 D = some (.lst acc) ∧ DpT H2 acc ((ys.take j).map (exc1 z))) ⟨same_new hD _, [], upd_same, .nil⟩ (fun j H2 _ q => SqL.of (q.1 _ _ hl1)) ?_ ?_
    · rintro j y H2 hy ⟨s2, acc, e2, da⟩
      rw [List.getElem?_map] at hy
      cases hj : ys[j]? with
      | none => rw [hj] at hy; cases hy
      | some kk =>
        rw [hj] at hy
        have hy' : V.int kk = y := Option.some.inj hy
        subst hy'
        have hin : kk ∈ z.odd.map (·.1) := perm.mem_iff.mp (List.mem_of_getElem? hj)
        obtain ⟨e, he, ek⟩ := List.mem_map.mp hin
        have hm := ok e he
        rw [ek] at hm
        refine ⟨rfl, ?_⟩
        unfold tYes
        refine ifT rfl ?_
        have S2 := (S.r.same s1).same s2
        refine ⟨_, rfl, _, rfl, p, dx, _, rfl, s2 _ _ (s1 _ _ h1), fz_no _ _ _, _, rfl, p, d, z, kk, rfl, S2, Sm.of (by omega) (by omega), fun _ H3 s3 => ?_, fun no => absurd ⟨hm.1, hm.2.1⟩ no⟩
        refine ⟨_, rfl, p, dx, _, rfl, s3 _ _ (s2 _ _ (s1 _ _ h1)), fz_no _ _ _, _, rfl, p, d, z, kk, rfl, S2.same s3, Sm.of (by omega) (by omega), fun _ H4 s4 => ?_, fun no => absurd ⟨hm.1, hm.2.1⟩ no⟩
        refine ⟨(by show 3 ≤ sizeLine; decide), fun t ht => ?_⟩
        have s5 := same_new ht (.tup [.int kk, .int (stM z kk).1, .bl (stM z kk).2])
        have e5 := s5 _ _ (s4 _ _ (s3 _ _ e2))
        have al : acc.length = (ys.take j).length := by rw [da.len, List.length_map]
        refine ⟨acc, e5, ?_, ?_, _, upd_same, ?_⟩
        · refine Nat.lt_of_le_of_lt ?_ (show 60 < sizeLine by decide)
          rw [al]
          exact Nat.le_trans (List.length_take_le' _ _) yl
        · intro b' o z'
          rw [upd_ne (ne_of_none z' hD)]
          exact s5 _ _ (s4 _ _ (s3 _ _ (s2 _ _ z')))
        · rw [take_map1 _ _ hj]
          have ts := TupSame.upd e5 (fun xs e => by cases e) (.lst (acc ++ [.ref t]))
          exact (da.mono (((TupSame.of s3).trans ((TupSame.of s4).trans (TupSame.of s5))).trans ts)).append (.cons ⟨t, rfl, ts _ _ upd_same⟩ .nil)
    rintro H2 ⟨s2, acc, e2, da⟩
    rw [List.length_map, List.take_length] at da
    exact k1 ys D H2 perm pw (s1.trans s2) (.lst (SqL.of e2) da.dp)
abbrev s_Sizes_repr : Stmt := inClass (top 13) 2
theorem sc_Sizes_repr : FnScope ["self"] ["self"] (defScope s_Sizes_repr) := ⟨rfl, rfl, rfl, by decide +kernel, rfl, by decide +kernel, by decide +kernel⟩
theorem ok_repr (F : Fun K "__repr__" "Sizes.__repr__" s_Sizes_repr f fd) (T : Tx K mg C cN cP cM cS cF tG tM tO tU)  : FnOk P w K mg base CX0 1 f fd ["self"] (spRepr C) := by
  refine F.ok sc_Sizes_repr (fun vs H Q E h => ?_) (fun cdv A outer s H vs Q E hr h => ?_)
  · obtain ⟨p, d, z, rfl, _⟩ := h
    rfl
  · obtain ⟨p, d, z, rfl, S, k1⟩ := h
    obtain ⟨dx, kvs, h1, h2, h3, W⟩ := id S
    obtain ⟨m0, m1, c0, c1, nd, le, ok⟩ := W
    refine ⟨_, (pss_one (ps_ret (pe_joined (.cons pe_str (.cons (pe_fmt (pe_fld (pv 0) rfl)) (.cons pe_str (.cons (pe_fmt (pe_fld (pv 0) rfl)) .nil))))))), ?_⟩
    have sm : Sm z.many := Sm.of (by omega) (by omega)
    have sc : Sm z.common := Sm.of (by omega) (by omega)
    have l1 := sm.len
    have l2 := sc.len
    refine ⟨_, rfl, ?_, _, rfl, p, C, dx, _, _, rfl, h1, T.cl, T.n_many, fz_many _ _ _, .inr ⟨_, rfl, sm.log, _, rfl, ?_, _, rfl, ?_, _, rfl, p, C, dx, _, _, rfl, h1, T.cl, T.n_common, fz_common _ _ _, .inr ⟨_, rfl, sc.log, _, rfl, ?_, ?_⟩⟩⟩
    · exact small (by rw [PySem.Str.length_append]; show 0 + 6 ≤ 1000; omega)
    · exact small (by rw [PySem.Str.length_append, PySem.Str.length_append]; show 0 + 6 + _ ≤ 1000; omega)
    · exact small (by rw [PySem.Str.length_append, PySem.Str.length_append, PySem.Str.length_append]; show 0 + 6 + _ + 1 ≤ 1000; omega)
    · exact small (by rw [PySem.Str.length_append, PySem.Str.length_append, PySem.Str.length_append, PySem.Str.length_append]; show 0 + 6 + _ + 1 + _ ≤ 1000; omega)
    · exact k1
-- pick
abbrev s_pick : Stmt := top 16
theorem sc_pick : FnScope ["_law_draw", "_law_many", "_law_cell", "_law_got"] ["_law_draw", "_law_many"] (defScope s_pick) := ⟨rfl, rfl, rfl, by decide +kernel, rfl, by decide +kernel, by decide +kernel⟩
theorem ok_pick (F : Fun K "_law_pick" "_law_pick" s_pick f fd) (T : Tx K mg C cN cP cM cS cF tG tM tO tU) : FnOk P w K mg base CX0 1 f fd ["_law_draw", "_law_many"] spPick := by
  refine F.ok sc_pick (fun vs H Q E h => ?_) (fun cdv A outer s H vs Q E hr h => ?_)
  · obtain ⟨a, many, rfl, _⟩ := h
    rfl
  · obtain ⟨a, many, rfl, D, m1, m2, k⟩ := h
    refine ⟨_, (C8.pss_cut (ps_if (PW.pt (pw_and (pt_cmpR op_lt (pe_ix ix_list (pv 0) pe_int (fun _ _ => rfl)) (pv 1) (nomark _)) (pw_and1 (pt_cmpR op_lt (pe_ix ix_list (pv 0) pe_int (fun _ _ => rfl)) (pe_callB call_len_seq (by rfl) T.no_len (by decide +kernel) (pa_cons (pe_ix ix_list (pv 0) pe_int (fun _ _ => rfl)) pa_nil)) (nomark _))))) (pss_cons (ps_set (i := 2) sc_pick.nd rfl (.inl rfl) (pe_ix ix_list (pe_ix ix_list (pv 0) pe_int (fun _ _ => rfl)) (pe_ix ix_list (pv 0) pe_int (fun _ _ => rfl)) (fun _ _ => rfl)))
        (pss_cons (ps_asg (pe_op op_add (pe_ix ix_list (pv 0) pe_int (fun _ _ => rfl)) pe_int) (pg_sub (pv 0) pe_int set_list))
        (pss_cons (ps_asg pe_int (pg_sub (pv 0) pe_int set_list))
        (pss_one (ps_if (pt_cmpR op_ge (pv 2) (pe_op op_pow pe_int pe_int) (nomark _)) (pss_one (ps_asg (pv 2) (pg_sub (pv 0) pe_int set_list))) (pss_one (ps_asg (pe_op op_mod (pe_op op_add (pe_ix ix_list (pv 0) pe_int (fun _ _ => rfl)) (pv 2)) pe_int) (pg_sub (pv 0) pe_int set_list)))))))) pss_nil)
      (pss_cons (ps_if (pt_cmpR op_ge (pe_ix ix_list (pv 0) pe_int (fun _ _ => rfl)) (pv 1) (nomark _)) (pss_cons (ps_set (i := 3) sc_pick.nd rfl (.inl rfl) (pe_op op_mod (pe_ix ix_list (pv 0) pe_int (fun _ _ => rfl)) (pv 1)))
        (pss_cons (ps_asg (pe_op op_fdiv (pe_ix ix_list (pv 0) pe_int (fun _ _ => rfl)) (pv 1)) (pg_sub (pv 0) pe_int set_list))
        (pss_one (ps_ret (pv 3))))) pss_nil)
      (pss_cons (ps_asg (pe_op op_add (pe_ix ix_list (pv 0) pe_int (fun _ _ => rfl)) pe_int) (pg_sub (pv 0) pe_int set_list))
      (pss_cons (ps_asg (pe_op op_mod (pe_op op_add (pe_op op_add (pe_op op_pow (pe_ix ix_list (pv 0) pe_int (fun _ _ => rfl)) pe_int) (pe_op op_mul pe_int (pe_ix ix_list (pv 0) pe_int (fun _ _ => rfl)))) pe_int) pe_int) (pg_sub (pv 0) pe_int set_list))
      (pss_one (ps_ret (pe_op op_mod (pe_op op_fdiv (pe_ix ix_list (pv 0) pe_int (fun _ _ => rfl)) pe_int) (pv 1)))))))), ?_⟩
    refine ⟨fun σ H1 => (∃ x y, σ = [some (.ref a), some (.int many), x, y]) ∧ DrawAt H1 a ∧ (∀ b, b ≠ a → H1 b = H b), ?_, ?_⟩
    · obtain ⟨l, ns, i, left, seed, n, h1, h2, hi, hs0, hs1⟩ := D
      have hl : l ≠ a := DrawAt.ne h1 h2
      refine ⟨_, rfl, _, _, _, _, rfl, rfl, SqL.of h1, atI_nat (j := 2) rfl, _, rfl, _, _, rfl, rfl, _, rfl, ?_⟩
      refine ite2 (fun c => ?_) (fun c => ?_)
      · refine ⟨_, rfl, _, _, _, _, rfl, rfl, SqL.of h1, atI_nat (j := 1) rfl, _, rfl, _, _, _, _, rfl, rfl, SqL.of h1, atI_nat (j := 0) rfl, _, _, rfl, .inl (SqL.of h2), _, _, rfl, rfl, _, rfl, ?_⟩
        refine ite2 (fun c => ?_) (fun c => ?_)
        · have c' : i < (((ns.map V.int).length : Nat) : Int) := of_decide_eq_true c
          rw [List.length_map] at c'
          have hk : i.toNat < ns.length := by omega
          have ek : i = ((i.toNat : Nat) : Int) := by omega
          have hat : atI (ns.map V.int) i = some (.int ns[i.toNat]) := by
            exact at_of ek (by rw [List.getElem?_map, List.getElem?_eq_getElem hk] <;> rfl)
          have g2 : ∀ o, upd H a o l = some (.lst (ns.map V.int)) := fun o => by rw [upd_ne hl]; exact h2
          refine ⟨_, rfl, _, _, _, _, rfl, rfl, SqL.of h1, atI_nat (j := 0) rfl, _, rfl, _, _, _, _, rfl, rfl, SqL.of h1, atI_nat (j := 1) rfl, _, _, _, _, rfl, rfl, SqL.of h2, hat, ?_⟩
          refine ⟨_, rfl, _, _, _, _, rfl, rfl, SqL.of h1, atI_nat (j := 1) rfl, _, _, rfl, rfl, _, rfl, _, _, _, 1, rfl, rfl, h1, rfl, ?_⟩
          refine ⟨_, rfl, _, _, _, 2, rfl, rfl, upd_same, rfl, ?_⟩
          rw [upd_upd]
          refine ⟨_, rfl, _, _, rfl, rfl, ⟨by decide, by decide, by decide⟩, _, _, rfl, rfl, _, rfl, ?_⟩
          refine ite2 (fun c => ?_) (fun c => ?_)
          · refine ⟨_, rfl, _, rfl, _, _, _, 2, rfl, rfl, upd_same, rfl, ?_⟩
            rw [upd_upd]
            exact ⟨⟨_, _, rfl⟩, ⟨l, ns, i + 1, ns[i.toNat], seed, n, upd_same, g2 _, by omega, hs0, hs1⟩, fun b hb => upd_ne hb⟩
          · refine ⟨_, rfl, _, _, _, _, rfl, rfl, SqL.of upd_same, atI_nat (j := 3) rfl, _, rfl, _, _, rfl, rfl, _, _, rfl, rfl, (by show (0 : Int) < 1000000007; decide), _, rfl, _, _, _, 3, rfl, rfl, upd_same, rfl, ?_⟩
            rw [upd_upd]
            exact ⟨⟨_, _, rfl⟩, ⟨l, ns, i + 1, 0, _, n, upd_same, g2 _, by omega, Int.emod_nonneg _ (by decide), Int.emod_lt_of_pos _ (by decide)⟩, fun b hb => upd_ne hb⟩
        · exact ⟨⟨_, _, rfl⟩, ⟨l, ns, i, left, seed, n, h1, h2, hi, hs0, hs1⟩, fun b hb => rfl⟩
      · exact ⟨⟨_, _, rfl⟩, ⟨l, ns, i, left, seed, n, h1, h2, hi, hs0, hs1⟩, fun b hb => rfl⟩
    · rintro σ H1 ⟨⟨x, y, rfl⟩, D1, fr⟩
      obtain ⟨l, ns, i, left, seed, n, h1, h2, hi, hs0, hs1⟩ := D1
      have hl : l ≠ a := DrawAt.ne h1 h2
      have g2 : ∀ o, upd H1 a o l = some (.lst (ns.map V.int)) := fun o => by rw [upd_ne hl]; exact h2
      have g3 : ∀ o b, b ≠ a → upd H1 a o b = H b := fun o b hb => by rw [upd_ne hb]; exact fr b hb
      refine ⟨_, rfl, _, _, _, _, rfl, rfl, SqL.of h1, atI_nat (j := 2) rfl, _, rfl, _, _, rfl, rfl, _, rfl, ?_⟩
      refine ite2 (fun c => ?_) (fun c => ?_)
      · refine ⟨_, rfl, _, _, _, _, rfl, rfl, SqL.of h1, atI_nat (j := 2) rfl, _, rfl, _, _, rfl, rfl, (show (0 : Int) < many by omega), ?_⟩
        refine ⟨_, rfl, _, _, _, _, rfl, rfl, SqL.of h1, atI_nat (j := 2) rfl, _, rfl, _, _, rfl, rfl, ⟨by omega, by omega⟩, _, rfl, _, _, _, 2, rfl, rfl, h1, rfl, ?_⟩
        refine ⟨_, rfl, ?_⟩
        exact k _ _ (Int.emod_nonneg _ (by omega)) (Int.emod_lt_of_pos _ (by omega)) ⟨l, ns, i, _, seed, n, upd_same, g2 _, hi, hs0, hs1⟩ (g3 _)
      · refine ⟨_, rfl, _, _, _, _, rfl, rfl, SqL.of h1, atI_nat (j := 4) rfl, _, _, rfl, rfl, _, rfl, _, _, _, 4, rfl, rfl, h1, rfl, ?_⟩
        refine ⟨_, rfl, _, _, _, _, rfl, rfl, SqL.of upd_same, atI_nat (j := 3) rfl, _, _, rfl, rfl, ⟨by decide, by decide, by omega⟩, _, rfl, _, _, _, _, rfl, rfl, SqL.of upd_same, atI_nat (j := 4) rfl, _, _, rfl, rfl, .inl ⟨by decide, by decide⟩, _, _, rfl, rfl, _, _, rfl, rfl, _, _, rfl, rfl, (by show (0 : Int) < 1000000007; decide), _, rfl, _, _, _, 3, rfl, rfl, upd_same, rfl, ?_⟩
        rw [upd_upd]
        refine ⟨_, rfl, _, _, _, _, rfl, rfl, SqL.of upd_same, atI_nat (j := 3) rfl, _, _, rfl, rfl, ⟨by decide, by decide⟩, _, rfl, _, _, rfl, rfl, (show (0 : Int) < many by omega), ?_⟩
        exact k _ _ (Int.emod_nonneg _ (by omega)) (Int.emod_lt_of_pos _ (by omega)) ⟨l, ns, i, left, _, _, upd_same, g2 _, hi, Int.emod_nonneg _ (by decide), Int.emod_lt_of_pos _ (by decide)⟩ (g3 _)
-- begin
abbrev s_begin : Stmt := top 15
theorem sc_begin : FnScope ["_law_script"] ["_law_script"] (defScope s_begin) := ⟨rfl, rfl, rfl, by decide +kernel, rfl, by decide +kernel, by decide +kernel⟩
theorem ok_begin (F : Fun K "_law_begin" "_law_begin" s_begin f fd) (T : Tx K mg C cN cP cM cS cF tG tM tO tU) : FnOk P w K mg base CX0 1 f fd ["_law_script"] (spBegin K) := by
  refine F.ok sc_begin (fun vs H Q E h => ?_) (fun cdv A outer s H vs Q E hr h => ?_)
  · obtain ⟨a, ns, rfl, _⟩ := h
    rfl
  · obtain ⟨sc, ns, rfl, hS, k⟩ := h
    refine ⟨_, (pss_one (ps_ret (pe_lst (pa_cons (pe_callTy call_list_of (by rfl) T.no_list (by decide +kernel) (pa_cons (pe_slice sl_list (pv 0) po_none (po_some pe_int)) pa_nil)) (pa_cons pe_int (pa_cons pe_int (pa_cons pe_int (pa_cons pe_int pa_nil)))))))), ?_⟩
    refine ⟨_, rfl, _, rfl, _, _, rfl, hS, fun p hp => ?_⟩
    refine ⟨_, _, rfl, .inl (SqL.of upd_same), fun l hl => ?_⟩
    refine ⟨(by show 5 ≤ sizeLine; decide), fun a ha => ?_⟩
    have s0 := (same_new hp (.lst (cutV (ns.map V.int) none (some 63)))).trans (same_new hl (.lst (cutV (ns.map V.int) none (some 63))))
    obtain ⟨ms, em⟩ := cut_ints ns none (some 63)
    refine k a _ (s0.free ha) ⟨l, ms, 0, 0, 1, 0, upd_same, ?_, by decide, by decide, by decide⟩ (s0.trans (same_new ha _))
    rw [upd_ne (ne_of_none upd_same ha), upd_same, em]
-- same
abbrev s_same : Stmt := top 18
theorem sc_same : FnScope ["_law_found", "_law_due", "_law_k"] ["_law_found", "_law_due"] (defScope s_same) := ⟨rfl, rfl, rfl, by decide +kernel, rfl, by decide +kernel, by decide +kernel⟩
theorem ok_same {n : Nat} (F : Fun K "_law_same" "_law_same" s_same f fd) (T : Tx K mg C cN cP cM cS cF tG tM tO tU) (D_same : Dn P w K mg base CX0 n "_law_same" ["_law_found", "_law_due"] (spSame K n)) : FnOk P w K mg base CX0 (n + 1) f fd ["_law_found", "_law_due"] (spSame K (n + 1)) := by
  refine F.ok sc_same (fun vs H Q E h => ?_) (fun cdv A outer s H vs Q E hr h => ?_)
  · obtain ⟨x, y, d, rfl, _⟩ := h
    rfl
  · obtain ⟨x, y, d, rfl, hx, hy, hd, hm, k⟩ := h
    refine ⟨_, (pss_cons (ps_if (pt_cmpR op_isN (pv 1) pe_non (nomark _)) (pss_one (ps_ret (pe_cmpR op_isN (pv 0) pe_non (nomark _)))) pss_nil)
      (pss_cons (ps_if (PW.pt (pw_or (pt_val (pe_callB call_isi (by rfl) T.no_isinstance (by decide +kernel) (pa_cons (pv 1) (pa_cons (pe_bltn (v := .ty "bool") (by rfl) T.no_bool (by decide +kernel) rfl) pa_nil)))) (pw_or1 (pt_val (pe_callB call_isi (by rfl) T.no_isinstance (by decide +kernel) (pa_cons (pv 0) (pa_cons (pe_bltn (v := .ty "bool") (by rfl) T.no_bool (by decide +kernel) rfl) pa_nil))))))) (pss_one (ps_ret (pe_and (pe_callB call_isi (by rfl) T.no_isinstance (by decide +kernel) (pa_cons (pv 1) (pa_cons (pe_bltn (v := .ty "bool") (by rfl) T.no_bool (by decide +kernel) rfl) pa_nil))) (pe_and (pe_callB call_isi (by rfl) T.no_isinstance (by decide +kernel) (pa_cons (pv 0) (pa_cons (pe_bltn (v := .ty "bool") (by rfl) T.no_bool (by decide +kernel) rfl) pa_nil))) (pe_one (pe_cmpR op_eq (pv 0) (pv 1) (nomark _))))))) pss_nil)
      (pss_cons (ps_if (pt_val (pe_callB call_isiT (by rfl) T.no_isinstance (by decide +kernel) (pa_cons (pv 1) (pa_cons (pe_tup (pa_cons (pe_bltn (v := .ty "int") (by rfl) T.no_int (by decide +kernel) rfl) (pa_cons (pe_bltn (v := .ty "str") (by rfl) T.no_str (by decide +kernel) rfl) pa_nil))) pa_nil)))) (pss_one (ps_ret (pe_and (pe_cmpR op_eq (pe_callB call_isi (by rfl) T.no_isinstance (by decide +kernel) (pa_cons (pv 0) (pa_cons (pe_bltn (v := .ty "int") (by rfl) T.no_int (by decide +kernel) rfl) pa_nil))) (pe_callB call_isi (by rfl) T.no_isinstance (by decide +kernel) (pa_cons (pv 1) (pa_cons (pe_bltn (v := .ty "int") (by rfl) T.no_int (by decide +kernel) rfl) pa_nil))) (nomark _)) (pe_and (pe_callB call_isiT (by rfl) T.no_isinstance (by decide +kernel) (pa_cons (pv 0) (pa_cons (pe_tup (pa_cons (pe_bltn (v := .ty "int") (by rfl) T.no_int (by decide +kernel) rfl) (pa_cons (pe_bltn (v := .ty "str") (by rfl) T.no_str (by decide +kernel) rfl) pa_nil))) pa_nil))) (pe_one (pe_cmpR op_eq (pv 0) (pv 1) (nomark _))))))) pss_nil)
      (pss_cons (ps_if (PW.pt (pw_or (pt_cmpR op_ne (pe_callB call_isi (by rfl) T.no_isinstance (by decide +kernel) (pa_cons (pv 0) (pa_cons (pe_bltn (v := .ty "list") (by rfl) T.no_list (by decide +kernel) rfl) pa_nil))) (pe_callB call_isi (by rfl) T.no_isinstance (by decide +kernel) (pa_cons (pv 1) (pa_cons (pe_bltn (v := .ty "list") (by rfl) T.no_list (by decide +kernel) rfl) pa_nil))) (nomark _)) (pw_or1 (pt_cmpR op_ne (pe_callB call_isi (by rfl) T.no_isinstance (by decide +kernel) (pa_cons (pv 0) (pa_cons (pe_bltn (v := .ty "tuple") (by rfl) T.no_tuple (by decide +kernel) rfl) pa_nil))) (pe_callB call_isi (by rfl) T.no_isinstance (by decide +kernel) (pa_cons (pv 1) (pa_cons (pe_bltn (v := .ty "tuple") (by rfl) T.no_tuple (by decide +kernel) rfl) pa_nil))) (nomark _))))) (pss_one (ps_ret pe_bl)) pss_nil)
      (pss_one (ps_ret (pe_and (pe_cmpR op_eq (pe_callB call_len_seq (by rfl) T.no_len (by decide +kernel) (pa_cons (pv 0) pa_nil)) (pe_callB call_len_seq (by rfl) T.no_len (by decide +kernel) (pa_cons (pv 1) pa_nil)) (nomark _)) (pe_one (pe_callB (cr_all rfl) (by rfl) T.no_all (by decide +kernel) (pa_cons (pe_lc (own := [("_law_k", 2)]) (g := gName 2) rfl sc_same.nd (pi_range1 (by rfl) T.no_range (pa_cons (pe_callB call_len_seq (by rfl) T.no_len (by decide +kernel) (pa_cons (pv 1) pa_nil)) pa_nil)) (blkOk_by (N := ["_law_found", "_law_due", "_law_k"]) (sc := defScope s_same) (by decide +kernel)) (fun _ _ _ _ _ => (pg_name (i := 2) sc_same.nd rfl (Or.inl rfl))) (fun _ _ _ _ _ => pts_nil) (fun _ _ _ _ _ => (pe_callD D_same hr (by rfl) pass0 (pa_cons (pe_ix (ixQk (K := K) rfl) (pv 0) (pv 2) (fun _ _ => rfl)) (pa_cons (pe_ix (ixQk (K := K) rfl) (pv 1) (pv 2) (fun _ _ => rfl)) pa_nil))))) pa_nil)))))))))), ?_⟩
    cases d with
    | dict kvs => cases hx
    | none =>
      cases hx
      cases hy
      exact ⟨_, rfl, rfl, _, rfl, ifT rfl ⟨_, rfl, rfl, k H (Same.refl H)⟩⟩
    | bool b =>
      cases hx
      cases hy
      have ty : ∀ H, TyX K H (.bl b) (.type "bool") := fun H => .base (.bl b)
      have kb : kitB "bool" "bool" = some true := by decide +kernel
      refine ⟨_, rfl, rfl, _, rfl, ?_⟩
      refine ifF (by simp) ?_
      refine ⟨_, rfl, _, _, _, _, true, rfl, .ty _, ty _, kit_ty kb, _, rfl, ?_⟩
      refine ifT rfl ?_
      refine ifT rfl ?_
      refine ⟨_, rfl, _, _, _, _, true, rfl, .ty _, ty _, kit_ty kb, _, rfl, ?_⟩
      refine ifT rfl ?_
      refine ⟨_, rfl, _, _, _, _, true, rfl, .ty _, ty _, kit_ty kb, _, rfl, ?_⟩
      refine ifT rfl ?_
      refine ⟨_, rfl, _, rfl, rfl, ?_⟩
      rw [decide_eq_true rfl]
      exact k H (Same.refl H)
    | int b =>
      cases hx
      cases hy
      have ty : ∀ H, TyX K H (.int b) (.type "int") := fun H => .base (.int b)
      have kb : kitB "int" "bool" = some false := by decide +kernel
      have ki : kitB "int" "int" = some true := by decide +kernel
      have ks : kitB "int" "str" = some false := by decide +kernel
      refine ⟨_, rfl, rfl, _, rfl, ?_⟩
      refine ifF (by simp) ?_
      refine ⟨_, rfl, _, _, _, _, false, rfl, .ty _, ty _, kit_ty kb, _, rfl, ?_⟩
      refine ifF (by simp) ?_
      refine ⟨_, rfl, _, _, _, _, false, rfl, .ty _, ty _, kit_ty kb, _, rfl, ?_⟩
      refine ifF (by simp) ?_
      refine ⟨_, rfl, (by show 2 ≤ sizeLine; decide), fun t1 nt1 => ⟨_, _, _, _, _, _, rfl, upd_same, cls2 _ _, ty _, kit2 ki ks, _, rfl, ?_⟩⟩
      refine ifT rfl ?_
      refine ⟨_, rfl, _, _, _, _, true, rfl, .ty _, ty _, kit_ty ki, _, rfl, _, _, _, _, true, rfl, .ty _, ty _, kit_ty ki, rfl, _, rfl, ?_⟩
      refine ifT rfl ?_
      refine ⟨_, rfl, (by show 2 ≤ sizeLine; decide), fun t2 nt2 => ⟨_, _, _, _, _, _, rfl, upd_same, cls2 _ _, ty _, kit2 ki ks, _, rfl, ?_⟩⟩
      refine ifT rfl ?_
      refine ⟨_, rfl, _, rfl, rfl, ?_⟩
      rw [decide_eq_true rfl]
      exact k _ ((same_new nt1 _).trans (same_new nt2 _))
    | str b =>
      cases hx
      cases hy
      have ty : ∀ H, TyX K H (.str b) (.type "str") := fun H => .base (.str b)
      have kb : kitB "str" "bool" = some false := by decide +kernel
      have ki : kitB "str" "int" = some false := by decide +kernel
      have ks : kitB "str" "str" = some true := by decide +kernel
      refine ⟨_, rfl, rfl, _, rfl, ?_⟩
      refine ifF (by simp) ?_
      refine ⟨_, rfl, _, _, _, _, false, rfl, .ty _, ty _, kit_ty kb, _, rfl, ?_⟩
      refine ifF (by simp) ?_
      refine ⟨_, rfl, _, _, _, _, false, rfl, .ty _, ty _, kit_ty kb, _, rfl, ?_⟩
      refine ifF (by simp) ?_
      refine ⟨_, rfl, (by show 2 ≤ sizeLine; decide), fun t1 nt1 => ⟨_, _, _, _, _, _, rfl, upd_same, cls2 _ _, ty _, kit2 ki ks, _, rfl, ?_⟩⟩
      refine ifT rfl ?_
      refine ⟨_, rfl, _, _, _, _, false, rfl, .ty _, ty _, kit_ty ki, _, rfl, _, _, _, _, false, rfl, .ty _, ty _, kit_ty ki, rfl, _, rfl, ?_⟩
      refine ifT rfl ?_
      refine ⟨_, rfl, (by show 2 ≤ sizeLine; decide), fun t2 nt2 => ⟨_, _, _, _, _, _, rfl, upd_same, cls2 _ _, ty _, kit2 ki ks, _, rfl, ?_⟩⟩
      refine ifT rfl ?_
      refine ⟨_, rfl, _, rfl, rfl, ?_⟩
      rw [decide_eq_true rfl]
      exact k _ ((same_new nt1 _).trans (same_new nt2 _))
    | list ds =>
      have hd' : PyData.depthAll ds < n := by simp only [PyData.depth] at hd; omega
      have kb : kitB "list" "bool" = some false := by decide +kernel
      have ki : kitB "list" "int" = some false := by decide +kernel
      have ks : kitB "list" "str" = some false := by decide +kernel
      have kl : kitB "list" "list" = some true := by decide +kernel
      have kt : kitB "list" "tuple" = some false := by decide +kernel
      cases hx with
      | @lst a xs _ sx ax =>
      cases hy with
      | @lst b ys _ sy ay =>
      have lx := dpAll_len ax
      have ly := dpAll_len ay
      have hm1 : ds.length ≤ 100000 := by simp only [mxl] at hm; omega
      have hm2 : mxlAll ds ≤ 100000 := by simp only [mxl] at hm; omega
      have hsl := sizeLine_eq
      refine ⟨_, rfl, rfl, _, rfl, ?_⟩
      refine ifF (by simp) ?_
      refine ⟨_, rfl, _, _, _, _, false, rfl, .ty _, tyx_list sy, kit_ty kb, _, rfl, ?_⟩
      refine ifF (by simp) ?_
      refine ⟨_, rfl, _, _, _, _, false, rfl, .ty _, tyx_list sx, kit_ty kb, _, rfl, ?_⟩
      refine ifF (by simp) ?_
      refine ⟨_, rfl, (by show 2 ≤ sizeLine; decide), fun t1 nt1 => ⟨_, _, _, _, _, _, rfl, upd_same, cls2 _ _, tyx_list ((same_new nt1 _).seq sy), kit2 ki ks, _, rfl, ?_⟩⟩
      refine ifF (by simp) ?_
      have s1 := same_new nt1 (.tup [.ty "int", .ty "str"])
      have sx1 := s1.seq sx
      have sy1 := s1.seq sy
      refine ⟨_, rfl, _, _, _, _, true, rfl, .ty _, tyx_list sx1, kit_ty kl, _, rfl, _, _, _, _, true, rfl, .ty _, tyx_list sy1, kit_ty kl, rfl, _, rfl, ?_⟩
      refine ifF (by simp) ?_
      refine ⟨_, rfl, _, _, _, _, false, rfl, .ty _, tyx_list sx1, kit_ty kt, _, rfl, _, _, _, _, false, rfl, .ty _, tyx_list sy1, kit_ty kt, rfl, _, rfl, ?_⟩
      refine ifF (by simp) ?_
      refine ⟨_, rfl, _, _, rfl, .inl sx1, _, rfl, _, _, rfl, .inl sy1, rfl, _, rfl, ?_⟩
      refine ifT (by simp [lx, ly]) ?_
      refine ⟨_, rfl, _, _, rfl, .inl sy1, _, rfl, (by omega), (by omega), fun D hD => ?_⟩
      generalize upd H t1 (HO.tup [V.ty "int", V.ty "str"]) = H1 at *
      refine lc_range (lo := 0) (n := ((ys.length : Nat) : Int).toNat) (fun i H2 => Same H1 H2 ∧ H2 D = some (.lst (List.replicate i (V.bl true)))) ⟨same_new hD _, upd_same⟩ ?_ ?_
      · rintro i H2 hi ⟨s2, e2⟩
        have hi' : i < ds.length := by omega
        have ed : ds[i]? = some ds[i] := List.getElem?_eq_getElem hi'
        obtain ⟨v, ev, dv⟩ := dpAll_get ax ed
        obtain ⟨u, eu, du⟩ := dpAll_get ay ed
        have nd : (ds[i]).depth < n := Nat.lt_of_le_of_lt (depth_get ed) hd'
        refine ⟨rfl, ?_⟩
        unfold tYes
        refine ifT rfl ?_
        refine ⟨_, rfl, _, rfl, .inl ⟨_, _, _, _, rfl, rfl, s2.seq sx1, at_of (by simp) ev, _, rfl, _, rfl, .inl ⟨_, _, _, _, rfl, rfl, s2.seq sy1, at_of (by simp) eu, _, _, _, rfl, dp_same (s1.trans s2) _ _ dv, dp_same (s1.trans s2) _ _ du, nd, Nat.le_trans (mxl_get ed) hm2, fun H3 s3 => ?_⟩⟩⟩
        refine ⟨_, s3 _ _ e2, (by rw [List.length_replicate]; omega), ?_, ?_⟩
        · intro b' o q
          rw [upd_ne (ne_of_none q hD)]
          exact s3 _ _ (s2 _ _ q)
        · rw [upd_same, rep_succ]
      · rintro H2 ⟨s2, e2⟩
        refine ⟨_, List.replicate ys.length true, rfl, SqL.of (by rw [e2, ← rep_bl]; simp), ?_⟩
        rw [rep_all]
        exact k _ (s1.trans s2)
    | tuple ds =>
      have hd' : PyData.depthAll ds < n := by simp only [PyData.depth] at hd; omega
      have kb : kitB "tuple" "bool" = some false := by decide +kernel
      have ki : kitB "tuple" "int" = some false := by decide +kernel
      have ks : kitB "tuple" "str" = some false := by decide +kernel
      have kl : kitB "tuple" "list" = some false := by decide +kernel
      have kt : kitB "tuple" "tuple" = some true := by decide +kernel
      cases hx with
      | @tup a xs _ sx ax =>
      cases hy with
      | @tup b ys _ sy ay =>
      have lx := dpAll_len ax
      have ly := dpAll_len ay
      have hm1 : ds.length ≤ 100000 := by simp only [mxl] at hm; omega
      have hm2 : mxlAll ds ≤ 100000 := by simp only [mxl] at hm; omega
      have hsl := sizeLine_eq
      refine ⟨_, rfl, rfl, _, rfl, ?_⟩
      refine ifF (by simp) ?_
      refine ⟨_, rfl, _, _, _, _, false, rfl, .ty _, tyx_tuple sy, kit_ty kb, _, rfl, ?_⟩
      refine ifF (by simp) ?_
      refine ⟨_, rfl, _, _, _, _, false, rfl, .ty _, tyx_tuple sx, kit_ty kb, _, rfl, ?_⟩
      refine ifF (by simp) ?_
      refine ⟨_, rfl, (by show 2 ≤ sizeLine; decide), fun t1 nt1 => ⟨_, _, _, _, _, _, rfl, upd_same, cls2 _ _, tyx_tuple (Same.tup (same_new nt1 _) sy), kit2 ki ks, _, rfl, ?_⟩⟩
      refine ifF (by simp) ?_
      have s1 := same_new nt1 (.tup [.ty "int", .ty "str"])
      have sx1 := Same.tup s1 sx
      have sy1 := Same.tup s1 sy
      refine ⟨_, rfl, _, _, _, _, false, rfl, .ty _, tyx_tuple sx1, kit_ty kl, _, rfl, _, _, _, _, false, rfl, .ty _, tyx_tuple sy1, kit_ty kl, rfl, _, rfl, ?_⟩
      refine ifF (by simp) ?_
      refine ⟨_, rfl, _, _, _, _, true, rfl, .ty _, tyx_tuple sx1, kit_ty kt, _, rfl, _, _, _, _, true, rfl, .ty _, tyx_tuple sy1, kit_ty kt, rfl, _, rfl, ?_⟩
      refine ifF (by simp) ?_
      refine ⟨_, rfl, _, _, rfl, .inr sx1, _, rfl, _, _, rfl, .inr sy1, rfl, _, rfl, ?_⟩
      refine ifT (by simp [lx, ly]) ?_
      refine ⟨_, rfl, _, _, rfl, .inr sy1, _, rfl, (by omega), (by omega), fun D hD => ?_⟩
      generalize upd H t1 (HO.tup [V.ty "int", V.ty "str"]) = H1 at *
      refine lc_range (lo := 0) (n := ((ys.length : Nat) : Int).toNat) (fun i H2 => Same H1 H2 ∧ H2 D = some (.lst (List.replicate i (V.bl true)))) ⟨same_new hD _, upd_same⟩ ?_ ?_
      · rintro i H2 hi ⟨s2, e2⟩
        have hi' : i < ds.length := by omega
        have ed : ds[i]? = some ds[i] := List.getElem?_eq_getElem hi'
        obtain ⟨v, ev, dv⟩ := dpAll_get ax ed
        obtain ⟨u, eu, du⟩ := dpAll_get ay ed
        have nd : (ds[i]).depth < n := Nat.lt_of_le_of_lt (depth_get ed) hd'
        refine ⟨rfl, ?_⟩
        unfold tYes
        refine ifT rfl ?_
        refine ⟨_, rfl, _, rfl, .inr (.inl ⟨_, _, _, _, rfl, rfl, Same.tup s2 sx1, at_of (by simp) ev, _, rfl, _, rfl, .inr (.inl ⟨_, _, _, _, rfl, rfl, Same.tup s2 sy1, at_of (by simp) eu, _, _, _, rfl, dp_same (s1.trans s2) _ _ dv, dp_same (s1.trans s2) _ _ du, nd, Nat.le_trans (mxl_get ed) hm2, fun H3 s3 => ?_⟩)⟩)⟩
        refine ⟨_, s3 _ _ e2, (by rw [List.length_replicate]; omega), ?_, ?_⟩
        · intro b' o q
          rw [upd_ne (ne_of_none q hD)]
          exact s3 _ _ (s2 _ _ q)
        · rw [upd_same, rep_succ]
      · rintro H2 ⟨s2, e2⟩
        refine ⟨_, List.replicate ys.length true, rfl, SqL.of (by rw [e2, ← rep_bl]; simp), ?_⟩
        rw [rep_all]
        exact k _ (s1.trans s2)
theorem same_all (F : Fun K "_law_same" "_law_same" s_same f fd) (T : Tx K mg C cN cP cM cS cF tG tM tO tU) (b : Binds K fd ["_law_found", "_law_due"] []) (m : mg "_law_same" = some (.ref f)) (kp : PySem.W.keepIn K (.ref f) = true) :
    ∀ n : Nat, Dn P w K mg base CX0 n "_law_same" ["_law_found", "_law_due"] (spSame K n)
  | 0 => ⟨f, fd, same_none, m, kp, b⟩
  | n + 1 => ⟨f, fd, ok_same F T (same_all F T b m kp n), m, kp, b⟩
end
end K01

set_option Elab.async false
set_option linter.all false
set_option maxRecDepth 100000
set_option maxHeartbeats 4000000
namespace K01
open PySem L2 Gs
section
variable {P : Program} {w : World} {K : PySem.W.Frag} {mg : Str → Option Value} {base : Heap} {f : Addr} {fd : FuncData} {C cN cP cM cS cF : Addr} {tG tM tO tU : Tok}
abbrev s_z_odd : Stmt := top 19
theorem sc_z_odd : FnScope ["_law_z_here", "_law_k"] ["_law_z_here"] (defScope s_z_odd) := ⟨rfl, rfl, rfl, by decide +kernel, rfl, by decide +kernel, by decide +kernel⟩
theorem ok_z_odd (F : Fun K "_law_z_odd" "_law_z_odd" s_z_odd f fd) (T : Tx K mg C cN cP cM cS cF tG tM tO tU)  : FnOk P w K mg base CX0 1 f fd ["_law_z_here"] spZodd := by
  refine F.ok sc_z_odd (fun vs H Q E h => ?_) (fun cdv A outer s H vs Q E hr h => ?_)
  · obtain ⟨a, o, g, z, rfl, _⟩ := h
    rfl
  · obtain ⟨a, o, g, z, rfl, S, k1⟩ := h
    have hu := hu_of hr
    refine ⟨_, (pss_one (ps_ret (pe_callB cr_sorted (by rfl) T.no_sorted (by decide +kernel) (pa_cons (pe_op op_cat (pe_callTy (call_listD rfl) (by rfl) T.no_list (by decide +kernel) (pa_cons (pe_dget hu (pv 0) pe_str (fun _ _ => rfl)) pa_nil)) (pe_lock (pe_lc (own := [("_law_k", 1)]) (g := gName 1) rfl sc_z_odd.nd (pi_keys (pe_dget hu (pv 0) pe_str (fun _ _ => rfl))) (blkOk_by (N := ["_law_z_here", "_law_k"]) (sc := defScope s_z_odd) (by decide +kernel)) (fun _ _ _ _ _ => (pg_name (i := 1) sc_z_odd.nd rfl (Or.inl rfl))) (fun _ _ _ _ _ => (pts_one (pt_cmp (pc_dnotin hu (pv 1) (pe_dget hu (pv 0) pe_str (fun _ _ => rfl)))))) (fun _ _ _ _ _ => (pv 1))))) pa_nil)))), ?_⟩
    refine ⟨_, rfl, _, _, rfl, dg_own S.ha, o, _, rfl, .inl S.ho, fun l1 n1 => ?_⟩
    have s1 := same_new n1 (.lst ((ownK z.own).map fun kv => kV kv.1))
    have e1 : ((ownK z.own).map fun kv => kV kv.1) = (z.own.map (·.1)).map V.int := by
      unfold ownK
      simp [kV]
    rw [e1] at s1 ⊢
    have S1 := S.same s1
    have hl1 : upd H l1 (.lst ((z.own.map (·.1)).map V.int)) l1 = some (.lst ((z.own.map (·.1)).map V.int)) := upd_same
    generalize upd H l1 (.lst ((z.own.map (·.1)).map V.int)) = H1 at s1 S1 hl1 ⊢
    refine ⟨g, _, S1.hg, trivial, fun od => ?_⟩
    obtain ⟨HL, eL⟩ : ∃ HL, HL = upd H1 g (.frz od (.dK (goneK z.gone))) := ⟨_, rfl⟩
    have hLg : HL g = some (.frz od (.dK (goneK z.gone))) := by rw [eL]; exact upd_same
    have hLa : HL a = some (.dK (zL z.many z.common o g)) := by rw [eL, upd_ne S.ag]; exact S1.ha
    have hLo : HL o = some (.dK (ownK z.own)) := by rw [eL, upd_ne S.og]; exact S1.ho
    rw [← eL]
    refine ⟨_, rfl, _, _, rfl, dg_gone hLa, g, od, rfl, .inl ⟨_, hLg, fun D hD => ?_⟩⟩
    refine lc_it walk_keys (fun j H2 => Same HL H2 ∧ H2 D = some (.lst (((z.gone.take j).filter fun k => !(zown z.own k).isSome).map V.int))) ⟨same_new hD _, upd_same⟩ (fun j H2 _ q => q.1 _ _ hLg) ?_ ?_
    · rintro j x H2 H2' hj ⟨s2, e2⟩ ⟨rfl, kk, vv, ekv, rfl⟩
      obtain ⟨e, ee, eq1⟩ : ∃ e, z.gone[j]? = some e ∧ kk = Sum.inl e := by
        unfold goneK at ekv
        rw [List.getElem?_map] at ekv
        cases hj' : z.gone[j]? with
        | none => rw [hj'] at ekv; cases ekv
        | some e =>
          rw [hj'] at ekv
          have := Option.some.inj ekv
          injection this with q1 q2
          exact ⟨e, rfl, q1.symm⟩
      subst eq1
      refine ⟨rfl, ?_⟩
      refine ⟨_, rfl, _, rfl, _, _, rfl, dg_own (s2 _ _ hLa), o, _, rfl, dg_own1 (s2 _ _ hLo) e, _, rfl, ?_⟩
      rw [Option.isSome_map]
      refine ite2 (fun q => ?_) (fun q => ?_)
      · refine ⟨_, rfl, _, e2, ?_, ?_, ?_⟩
        · refine Nat.lt_of_le_of_lt ?_ (show 1000 < sizeLine by decide)
          rw [List.length_map]
          exact Nat.le_trans (List.length_filter_le _ _) (Nat.le_trans (List.length_take_le' _ _) S.ok.l2)
        · intro b' o' z'
          rw [upd_ne (ne_of_none z' hD)]
          exact s2 _ _ z'
        · rw [upd_same, take_filter1 _ _ ee, if_pos q, List.map_append]
          rfl
      · refine ⟨s2, ?_⟩
        rw [take_filter1 _ _ ee, if_neg q, List.append_nil]
        exact e2
    rintro H2 ⟨s2, e2⟩
    have eLen : (goneK z.gone).length = z.gone.length := by unfold goneK; rw [List.length_map]
    rw [eLen, List.take_length] at e2
    have nDg : D ≠ g := ne_of e2 (s2 _ _ hLg) (by intro e; cases e)
    have sF : Same H1 (upd H2 g (.dK (goneK z.gone))) := by
      intro b o' q
      by_cases hb : b = g
      · subst hb
        rw [S1.hg] at q
        cases q
        exact upd_same
      · rw [upd_ne hb]
        refine s2 _ _ ?_
        rw [eL, upd_ne hb]
        exact q
    have le := S.ok.le
    unfold zkeys at le
    rw [List.length_append] at le
    refine ⟨s2 _ _ hLg, _, _, _, _, rfl, rfl, sF _ _ hl1, (by rw [upd_ne nDg]; exact e2), small (by simp only [List.length_map] at le ⊢; omega), fun p hp => ?_⟩
    have s5 := same_new hp (.lst ((z.own.map (·.1)).map V.int ++ (z.gone.filter fun k => !(zown z.own k).isSome).map V.int))
    refine ⟨p, zkeys z, rfl, SqL.of (by rw [upd_same]; unfold zkeys; rw [List.map_append]), S.ok.le, fun ys q perm pw hq => ?_⟩
    exact k1 ys q _ perm pw (s1.trans (sF.trans (s5.trans (same_new hq _)))) upd_same
abbrev s_z_size : Stmt := top 20
theorem sc_z_size : FnScope ["_law_z_here", "_law_k"] ["_law_z_here", "_law_k"] (defScope s_z_size) := ⟨rfl, rfl, rfl, by decide +kernel, rfl, by decide +kernel, by decide +kernel⟩
theorem ok_z_size (F : Fun K "_law_z_size" "_law_z_size" s_z_size f fd) (T : Tx K mg C cN cP cM cS cF tG tM tO tU)  : FnOk P w K mg base CX0 1 f fd ["_law_z_here", "_law_k"] spZsize := by
  refine F.ok sc_z_size (fun vs H Q E h => ?_) (fun cdv A outer s H vs Q E hr h => ?_)
  · obtain ⟨a, o, g, z, k, rfl, _⟩ := h
    rfl
  · obtain ⟨a, o, g, z, k, rfl, S, q⟩ := h
    have hu := hu_of hr
    refine ⟨_, (pss_cons (ps_if (pt_cmp (pc_din hu (pv 1) (pe_dget hu (pv 0) pe_str (fun _ _ => rfl)))) (pss_one (ps_ret pe_int)) pss_nil)
      (pss_one (ps_ret (pe_dget2 hu (pe_dget hu (pv 0) pe_str (fun _ _ => rfl)) (pv 1) (pe_dget hu (pv 0) pe_str (fun _ _ => rfl)) ⟨rfl, rfl, rfl, rfl⟩)))), ?_⟩
    refine ⟨_, rfl, _, rfl, _, _, rfl, dg_gone S.ha, g, _, rfl, dg_gone1 S.hg k, _, rfl, ?_⟩
    rw [gone_some]
    unfold zsz at q
    refine ite2 (fun c => ?_) (fun c => ?_)
    · rw [if_pos (of_decide_eq_true c)] at q
      exact q
    · rw [if_neg (fun m => c (decide_eq_true m))] at q
      refine ⟨_, rfl, _, _, rfl, dg_own S.ha, o, rfl, .inl ⟨_, .inl S.ho⟩, _, rfl, _, rfl, _, _, rfl, dg_common S.ha, _, dg_own1 S.ho k, ?_⟩
      rw [opt_int]
      exact q
abbrev s_z_ahead : Stmt := top 21
theorem sc_z_ahead : FnScope ["_law_z_here", "_law_k", "_law_found", "_law_one"] ["_law_z_here", "_law_k"] (defScope s_z_ahead) := ⟨rfl, rfl, rfl, by decide +kernel, rfl, by decide +kernel, by decide +kernel⟩
theorem ok_z_ahead (F : Fun K "_law_z_ahead" "_law_z_ahead" s_z_ahead f fd) (T : Tx K mg C cN cP cM cS cF tG tM tO tU) (D_z_odd : Dn P w K mg base CX0 1 "_law_z_odd" ["_law_z_here"] spZodd) (D_z_size : Dn P w K mg base CX0 1 "_law_z_size" ["_law_z_here", "_law_k"] spZsize) : FnOk P w K mg base CX0 2 f fd ["_law_z_here", "_law_k"] spZahead := by
  refine F.ok sc_z_ahead (fun vs H Q E h => ?_) (fun cdv A outer s H vs Q E hr h => ?_)
  · obtain ⟨a, o, g, z, k, rfl, _⟩ := h
    rfl
  · obtain ⟨a, o, g, z, k, rfl, S, k1⟩ := h
    have hu := hu_of hr
    have c0 := S.ok.c0
    have c1 := S.ok.c1
    refine ⟨_, (pss_cons (ps_set (i := 2) sc_z_ahead.nd rfl (.inl rfl) (pe_op op_mul (pv 1) (pe_dget hu (pv 0) pe_str (fun _ _ => rfl))))
      (pss_cons (ps_for PassesOwn.never rfl (pi_list (pe_callD D_z_odd (hr.mono (by omega)) (by rfl) pass0 (pa_cons (pv 0) pa_nil))) (pg_name (i := 3) sc_z_ahead.nd rfl (.inl rfl))
        (pss_one (ps_if (pt_cmpR op_lt (pv 3) (pv 1) (nomark _)) (pss_one (ps_set (i := 2) sc_z_ahead.nd rfl (.inl rfl) (pe_op op_sub (pe_op op_add (pv 2) (pe_callD D_z_size (hr.mono (by omega)) (by rfl) pass0 (pa_cons (pv 0) (pa_cons (pv 3) pa_nil)))) (pe_dget hu (pv 0) pe_str (fun _ _ => rfl))))) pss_nil)))
      (pss_one (ps_ret (pv 2))))), ?_⟩
    refine ⟨_, rfl, _, rfl, _, _, rfl, dg_common S.ha, _, _, rfl, rfl, .inr ⟨by omega, by omega⟩, ?_⟩
    refine ⟨_, rfl, a, o, g, z, rfl, S, fun ys l H1 perm pw s1 hl => ?_⟩
    refine ⟨l, rfl, ⟨_, SqL.of hl⟩, ?_⟩
    refine for_list (K := K) (a := l) (xs := ys.map V.int) (fun j σ H2 => Same H1 H2 ∧ ∃ v, σ = [some (.ref a), some (.int k), some (.int (k * z.common + (((ys.take j).filter fun q => decide (q < k)).map fun q => zsz z q - z.common).sum)), v]) ⟨Same.refl _, none, by simp; rfl⟩ (fun j σ H2 _ q => SqL.of (q.1 _ _ hl)) ?_ ?_
    · rintro j x σ H2 hx ⟨s2, v, rfl⟩
      rw [List.getElem?_map] at hx
      cases hj : ys[j]? with
      | none => rw [hj] at hx; cases hx
      | some y =>
        rw [hj] at hx
        have hy' : V.int y = x := Option.some.inj hx
        subst hy'
        refine ⟨_, rfl, _, rfl, _, _, rfl, rfl, _, rfl, ?_⟩
        refine ite2 (fun q => ?_) (fun q => ?_)
        · have S2 := (S.same s1).same s2
          refine ⟨_, rfl, _, rfl, _, rfl, a, o, g, z, y, rfl, S2, ?_⟩
          refine ⟨_, _, rfl, rfl, _, rfl, _, _, rfl, dg_common S2.ha, _, _, rfl, rfl, s2, some (.int y), ?_⟩
          rw [take_filter1 _ _ hj, if_pos q, List.map_append, List.sum_append]
          simp only [List.map_cons, List.map_nil, List.sum_cons, List.sum_nil]
          refine congrArg (fun q => [some (V.ref a), some (V.int k), some (V.int q), some (V.int y)]) ?_
          omega
        · refine ⟨s2, some (.int y), ?_⟩
          rw [take_filter1 _ _ hj, if_neg q, List.append_nil]
          rfl
    rintro σ H2 ⟨s2, v, rfl⟩
    rw [List.length_map, List.take_length]
    refine ⟨_, rfl, ?_⟩
    have := k1 H2 (s1.trans s2)
    unfold zah at this
    rw [perm_sum ((perm.filter _).map _)]
    exact this
abbrev s_z_stands : Stmt := top 22
theorem sc_z_stands : FnScope ["_law_sizes", "_law_z_here", "_law_some", "_law_k", "_law_rows", "_law_due"] ["_law_sizes", "_law_z_here", "_law_some"] (defScope s_z_stands) := ⟨rfl, rfl, rfl, by decide +kernel, rfl, by decide +kernel, by decide +kernel⟩
theorem ok_z_stands (F : Fun K "_law_z_stands" "_law_z_stands" s_z_stands f fd) (T : Tx K mg C cN cP cM cS cF tG tM tO tU) (D_z_odd : Dn P w K mg base CX0 1 "_law_z_odd" ["_law_z_here"] spZodd) (D_z_size : Dn P w K mg base CX0 1 "_law_z_size" ["_law_z_here", "_law_k"] spZsize) (D_z_ahead : Dn P w K mg base CX0 2 "_law_z_ahead" ["_law_z_here", "_law_k"] spZahead) (D_same : Dn P w K mg base CX0 4 "_law_same" ["_law_found", "_law_due"] (spSame K 4)) (M_size : Mn P w K mg base (L2.CX P w) 3 C "size" ["self", "number"] (spSize C cN)) (M_own : Mn P w K mg base (L2.CX P w) 3 C "own" ["self", "number"] (spOwn C cN)) (M_hidden : Mn P w K mg base (L2.CX P w) 3 C "hidden" ["self", "number"] (spHid C cN)) (M_ahead : Mn P w K mg base (L2.CX P w) 4 C "ahead" ["self", "number"] (spAhead C cN)) (M_total : Mn P w K mg base CX0 5 C "total" ["self"] (spTotal C)) (M_exceptions : Mn P w K mg base CX0 4 C "exceptions" ["self"] (spExc K C)) (M_repr : Mn P w K mg base CX0 1 C "__repr__" ["self"] (spRepr C)) : FnOk P w K mg base CX0 6 f fd ["_law_sizes", "_law_z_here", "_law_some"] (spZst K C) := by
  refine F.ok sc_z_stands (fun vs H Q E h => ?_) (fun cdv A outer s H vs Q E hr h => ?_)
  · obtain ⟨p, d, a, o, g, l, sz, z, ns, rfl, _⟩ := h
    rfl
  · obtain ⟨p, d, a, o, g, l, sz, z, ns, rfl, S, Z, R, hl, hln, hns, k1⟩ := h
    have hu := hu_of hr
    refine ⟨_, (pss_cons (ps_setLc (i := 4) (own := [("_law_k", 3)]) (g := gName 3) rfl sc_z_stands.nd rfl rfl (sw_true rfl rfl rfl (by decide +kernel)) (pi_list (pe_callD D_z_odd (hr.mono (by omega)) (by rfl) pass0 (pa_cons (pv 1) pa_nil))) (blkOk_by (N := ["_law_sizes", "_law_z_here", "_law_some", "_law_k", "_law_rows", "_law_due"]) (sc := defScope s_z_stands) (by decide +kernel)) (fun _ _ _ _ _ => (pg_name (i := 3) sc_z_stands.nd rfl (Or.inl rfl))) (fun _ _ _ _ _ => pts_nil) (fun _ _ _ _ _ => (pe_tup (pa_cons (pv 3) (pa_cons (pe_dget2 hu (pe_dget hu (pv 1) pe_str (fun _ _ => rfl)) (pv 3) (pe_dget hu (pv 1) pe_str (fun _ _ => rfl)) ⟨rfl, rfl, rfl, rfl⟩) (pa_cons (pe_cmp (pc_din hu (pv 3) (pe_dget hu (pv 1) pe_str (fun _ _ => rfl)))) pa_nil))))))
      (pss_cons (ps_set (i := 5) sc_z_stands.nd rfl (.inl rfl) (pe_lst (pa_cons (pv 4) (pa_cons (pe_dget hu (pv 1) pe_str (fun _ _ => rfl)) (pa_cons (pe_dget hu (pv 1) pe_str (fun _ _ => rfl)) (pa_cons (pe_callD D_z_ahead (hr.mono (by omega)) (by rfl) pass0 (pa_cons (pv 1) (pa_cons (pe_dget hu (pv 1) pe_str (fun _ _ => rfl)) pa_nil))) pa_nil))))))
      (pss_cons (ps_expr (pe_bm PySem.F.plainAttrs_list PySem.F.slot_list_append PySem.F.type_list_append mt_append (pv 5) (pa_cons (pe_op op_add_str (pe_op op_add_str (pe_op op_add_str pe_str (pe_callTy call_str_int (by rfl) T.no_str (by decide +kernel) (pa_cons (pe_dget hu (pv 1) pe_str (fun _ _ => rfl)) pa_nil))) pe_str) (pe_callTy call_str_int (by rfl) T.no_str (by decide +kernel) (pa_cons (pe_dget hu (pv 1) pe_str (fun _ _ => rfl)) pa_nil))) pa_nil)))
      (pss_cons (ps_if (pt_not (pt_val (pe_callD D_same (hr.mono (by omega)) (by rfl) pass0 (pa_cons (pe_lst (pa_cons (pe_methD0 T.cl M_exceptions (hr.mono (by omega)) pass0 (pv 0)) (pa_cons (pe_fld (pv 0) rfl) (pa_cons (pe_fld (pv 0) rfl) (pa_cons (pe_methD0 T.cl M_total (hr.mono (by omega)) pass0 (pv 0)) (pa_cons (pe_callB (call_reprD M_repr (hr.mono (by omega)) pass0) (by rfl) T.no_repr (by decide +kernel) (pa_cons (pv 0) pa_nil)) pa_nil)))))) (pa_cons (pv 5) pa_nil))))) (pss_one (ps_ret pe_bl)) pss_nil)
      (pss_cons (ps_for PassesOwn.never rfl (pi_list (pe_lc (own := [("_law_k", 3)]) (g := gName 3) rfl sc_z_stands.nd (pi_list (pv 2)) (blkOk_by (N := ["_law_sizes", "_law_z_here", "_law_some", "_law_k", "_law_rows", "_law_due"]) (sc := defScope s_z_stands) (by decide +kernel)) (fun _ _ _ _ _ => (pg_name (i := 3) sc_z_stands.nd rfl (Or.inl rfl))) (fun _ _ _ _ _ => (pts_one (pt_chain op_le op_lt pe_int (pv 3) (pe_dget hu (pv 1) pe_str (fun _ _ => rfl))))) (fun _ _ _ _ _ => (pv 3)))) (pg_name (i := 3) sc_z_stands.nd rfl (.inl rfl))
        (pss_cons (ps_set (i := 5) sc_z_stands.nd rfl (.inl rfl) (pe_lst (pa_cons (pe_callD D_z_size (hr.mono (by omega)) (by rfl) pass0 (pa_cons (pv 1) (pa_cons (pv 3) pa_nil))) (pa_cons (pe_dget2 hu (pe_dget hu (pv 1) pe_str (fun _ _ => rfl)) (pv 3) (pe_dget hu (pv 1) pe_str (fun _ _ => rfl)) ⟨rfl, rfl, rfl, rfl⟩) (pa_cons (pe_cmp (pc_din hu (pv 3) (pe_dget hu (pv 1) pe_str (fun _ _ => rfl)))) (pa_cons (pe_callD D_z_ahead (hr.mono (by omega)) (by rfl) pass0 (pa_cons (pv 1) (pa_cons (pv 3) pa_nil))) pa_nil))))))
        (pss_one (ps_if (pt_not (pt_val (pe_callD D_same (hr.mono (by omega)) (by rfl) pass0 (pa_cons (pe_lst (pa_cons (pe_methD T.cl M_size (hr.mono (by omega)) passL (pv 0) (pa_cons (pv 3) pa_nil)) (pa_cons (pe_methD T.cl M_own (hr.mono (by omega)) passL (pv 0) (pa_cons (pv 3) pa_nil)) (pa_cons (pe_methD T.cl M_hidden (hr.mono (by omega)) passL (pv 0) (pa_cons (pv 3) pa_nil)) (pa_cons (pe_methD T.cl M_ahead (hr.mono (by omega)) passL (pv 0) (pa_cons (pv 3) pa_nil)) pa_nil))))) (pa_cons (pv 5) pa_nil))))) (pss_one (ps_ret pe_bl)) pss_nil))))
      (pss_one (ps_ret pe_bl))))))), ?_⟩
    have m0 := Z.ok.m0
    have m1 := Z.ok.m1
    have c0 := Z.ok.c0
    have c1 := Z.ok.c1
    have smM : Sm z.many := Sm.of (by omega) (by omega)
    have smC : Sm z.common := Sm.of (by omega) (by omega)
    -- the rows that are due
    refine ⟨_, rfl, a, o, g, z, rfl, Z, fun ys l1 H1 perm pw s1 hl1 => ?_⟩
    refine ⟨l1, rfl, ⟨_, SqL.of hl1⟩, fun D hD => ?_⟩
    have yl : ys.length < 64 := by rw [perm.length_eq]; exact Z.ok.le
    have Z1 := Z.same s1
    refine lc_list (K := K) (a := l1) (xs := ys.map V.int) (fun j H2 => Same H1 H2 ∧ ∃ acc, H2 D = some (.lst acc) ∧ DpT H2 acc ((ys.take j).map (zexc z))) ⟨same_new hD _, [], upd_same, .nil⟩ (fun j H2 _ q => SqL.of (q.1 _ _ hl1)) ?_ ?_
    · rintro j y H2 hy ⟨s2, acc, e2, da⟩
      rw [List.getElem?_map] at hy
      cases hj : ys[j]? with
      | none => rw [hj] at hy; cases hy
      | some kk =>
        rw [hj] at hy
        have hy' : V.int kk = y := Option.some.inj hy
        subst hy'
        have Z2 := Z1.same s2
        refine ⟨rfl, ?_⟩
        unfold tYes
        refine ifT rfl ?_
        refine ⟨_, rfl, _, rfl, _, _, rfl, dg_own Z2.ha, o, rfl, .inl ⟨_, .inl Z2.ho⟩, _, rfl, _, rfl, _, _, rfl, dg_common Z2.ha, _, dg_own1 Z2.ho kk, _, rfl, _, rfl, _, _, rfl, dg_gone Z2.ha, g, _, rfl, dg_gone1 Z2.hg kk, (by show 3 ≤ sizeLine; decide), fun t ht => ?_⟩
        rw [opt_int, gone_some]
        have s5 := same_new ht (.tup [.int kk, .int ((zown z.own kk).getD z.common), .bl (decide (kk ∈ z.gone))])
        have e5 := s5 _ _ e2
        have al : acc.length = (ys.take j).length := by rw [da.len, List.length_map]
        refine ⟨acc, e5, ?_, ?_, _, upd_same, ?_⟩
        · refine Nat.lt_of_le_of_lt ?_ (show 64 < sizeLine by decide)
          rw [al]
          exact Nat.le_trans (List.length_take_le' _ _) (by omega)
        · intro b' o' z'
          rw [upd_ne (ne_of_none z' hD)]
          exact s5 _ _ (s2 _ _ z')
        · rw [take_map1 _ _ hj]
          have ts := TupSame.upd e5 (fun xs e => by cases e) (.lst (acc ++ [.ref t]))
          exact (da.mono ((TupSame.of s5).trans ts)).append (.cons ⟨t, rfl, ts _ _ upd_same⟩ .nil)
    rintro H2 ⟨s2, acc, e2, da⟩
    rw [List.length_map, List.take_length] at da
    have Z2 := Z1.same s2
    have dRows : Dp K H2 (.ref D) (.list ((ys.map (zexc z)).map exD)) := .lst (SqL.of e2) da.dp
    -- due
    refine ⟨_, rfl, _, rfl, _, _, rfl, dg_many Z2.ha, _, rfl, _, _, rfl, dg_common Z2.ha, _, rfl, _, rfl, _, _, rfl, dg_many Z2.ha, a, o, g, z, _, rfl, Z2, fun H3 s3 => ?_⟩
    refine ⟨(by show 4 ≤ sizeLine; decide), fun l3 n3 => ?_⟩
    have s4 := same_new n3 (.lst [.ref D, .int z.many, .int z.common, .int (zah z z.many)])
    have Z4 := (Z2.same s3).same s4
    have lm := smM.len
    have lc := smC.len
    refine ⟨_, rfl, .inl ⟨rfl, _, SqL.of upd_same⟩, _, rfl, _, _, rfl, dg_many Z4.ha, _, rfl, smM.log, _, _, rfl, rfl, ?_, _, _, rfl, rfl, ?_, _, rfl, _, _, rfl, dg_common Z4.ha, _, rfl, smC.log, _, _, rfl, rfl, ?_, l3, _, _, rfl, rfl, upd_same, (by show 4 < sizeLine; decide), ?_⟩
    · exact small (by show 6 + _ ≤ 1000; omega)
    · exact small (by rw [PySem.Str.length_append]; show 6 + _ + 1 ≤ 1000; omega)
    · exact small (by rw [PySem.Str.length_append, PySem.Str.length_append]; show 6 + _ + 1 + _ ≤ 1000; omega)
    rw [upd_upd]
    show ∃ _, _
    have s5 : Same H3 (upd H3 l3 (.lst ([.ref D, .int z.many, .int z.common, .int (zah z z.many)] ++ [.str (reprZ z.many z.common)]))) := same_new n3 _
    obtain ⟨H5, eH5⟩ : ∃ H5, H5 = upd H3 l3 (.lst ([.ref D, .int z.many, .int z.common, .int (zah z z.many)] ++ [.str (reprZ z.many z.common)])) := ⟨_, rfl⟩
    have h5l : H5 l3 = some (.lst [.ref D, .int z.many, .int z.common, .int (zah z z.many), .str (reprZ z.many z.common)]) := by rw [eH5]; exact upd_same
    rw [← eH5] at s5
    have sA := s1.trans (s2.trans (s3.trans s5))
    have S5 := S.same sA
    obtain ⟨dx, kvs, h1, h2, h3, W⟩ := id S5
    have dR5 := dp_same (s3.trans s5) _ _ dRows
    have eq5 : upd H3 l3 (.lst ([.ref D, .int z.many, .int z.common, .int (zah z z.many)] ++ [.str (("Sizes " : Str) ++ (toString z.many : String) ++ (" " : Str) ++ (toString z.common : String))])) = H5 := eH5.symm
    refine (show _ from ?_)
    clear eH5
    subst eq5
    -- all of it at once
    refine ⟨_, rfl, p, dx, _, rfl, h1, fz_no _ _ _, p, d, sz, rfl, S5, fun ys2 lx H6 perm2 pw2 s6 d6 => ?_⟩
    have S6 := S5.same s6
    have h16 := s6 _ _ h1
    refine ⟨_, rfl, p, C, dx, _, _, rfl, h16, T.cl, T.n_many, fz_many _ _ _, _, rfl, p, C, dx, _, _, rfl, h16, T.cl, T.n_common, fz_common _ _ _, _, rfl, p, dx, _, rfl, h16, fz_no _ _ _, p, d, sz, rfl, S6, fun H7 s7 => ?_⟩
    have S7 := S6.same s7
    refine ⟨_, rfl, p, dx, _, rfl, s7 _ _ h16, p, d, sz, rfl, S7.r, ⟨_, rfl⟩, (by show 5 ≤ sizeLine; decide), fun L nL => ?_⟩
    have s8 := same_new nL (.lst [.ref lx, .int sz.many, .int sz.common, .int (ahM sz sz.many), .str (reprM sz)])
    have sB := s6.trans (s7.trans s8)
    have ey : ys2 = ys := sorted_eq (perm2.trans (R.keys.trans perm.symm)) pw2 pw
    have ed : (ys2.map (exc1 sz)).map exD = (ys.map (zexc z)).map exD := by
      rw [ey]
      congr 1
      exact List.map_congr_left fun k _ => R.exc k
    rw [ed] at d6
    refine ⟨_, rfl, _, _, .list [.list ((ys.map (zexc z)).map exD), .int z.many, .int z.common, .int (zah z z.many), .str (reprZ z.many z.common)], rfl, ?_, ?_, ?_, ?_, fun H9 s9 => ⟨_, rfl, ?_⟩⟩
    · refine .lst (SqL.of upd_same) ?_
      exact .cons (dp_same (s7.trans s8) _ _ d6) (.cons (dpI R.many) (.cons (dpI R.common) (.cons (dpI (by rw [R.ah, R.many])) (.cons (dpS R.repr) .nil))))
    · exact .lst (SqL.of (sB _ _ h5l)) (.cons (dp_same sB _ _ dR5) (.cons (.int _) (.cons (.int _) (.cons (.int _) (.cons (.str _) .nil)))))
    · have := ex_depth (ys.map (zexc z))
      simp only [PyData.depth, PyData.depthAll]
      omega
    · have := ex_mxl (ys.map (zexc z))
      simp only [mxl, mxlAll, List.length_cons, List.length_nil, List.length_map]
      omega
    refine ifF (by simp) ?_
    have sC := sA.trans (sB.trans s9)
    clear sB s9 s8 s7 s6 d6 dR5 h5l
    have hl9 := sC _ _ hl
    have Z9 := Z.same sC
    have S9 := S.same sC
    -- one by one
    refine ⟨_, rfl, l, rfl, ⟨_, SqL.of hl9⟩, fun D2 hD2 => ?_⟩
    refine lc_list (K := K) (a := l) (xs := ns.map V.int) (fun j H10 => Same H9 H10 ∧ H10 D2 = some (.lst (((ns.take j).filter fun k => decide (0 ≤ k) && decide (k < z.many)).map V.int))) ⟨same_new hD2 _, upd_same⟩ (fun j H10 _ q => SqL.of (q.1 _ _ hl9)) ?_ ?_
    · rintro j y H10 hy ⟨s10, e10⟩
      rw [List.getElem?_map] at hy
      cases hj : ns[j]? with
      | none => rw [hj] at hy; cases hy
      | some kk =>
        rw [hj] at hy
        have hy' : V.int kk = y := Option.some.inj hy
        subst hy'
        refine ⟨rfl, ?_⟩
        have noK : (decide (0 ≤ kk) && decide (kk < z.many)) = false → Same H9 H10 ∧ H10 D2 = some (.lst (((ns.take (j + 1)).filter fun k => decide (0 ≤ k) && decide (k < z.many)).map V.int)) := fun q => by
          refine ⟨s10, ?_⟩
          rw [take_filter1 _ _ hj, q, if_neg (by simp), List.append_nil]
          exact e10
        refine ⟨_, rfl, _, _, rfl, rfl, _, rfl, ?_⟩
        refine ite2 (fun q => ?_) (fun q => ?_)
        · refine ⟨_, rfl, _, _, rfl, dg_many (s10 _ _ Z9.ha), _, _, rfl, rfl, _, rfl, ?_⟩
          refine ite2 (fun q2 => ?_) (fun q2 => ?_)
          · refine ⟨_, rfl, _, e10, ?_, ?_, ?_⟩
            · refine Nat.lt_of_le_of_lt ?_ (show 1000 < sizeLine by decide)
              rw [List.length_map]
              exact Nat.le_trans (List.length_filter_le _ _) (Nat.le_trans (List.length_take_le' _ _) hln)
            · intro b' o' z'
              rw [upd_ne (ne_of_none z' hD2)]
              exact s10 _ _ z'
            · rw [upd_same, take_filter1 _ _ hj, if_pos (by rw [q, q2]; rfl), List.map_append]
              rfl
          · exact noK (by rw [q, Bool.eq_false_iff.mpr q2]; rfl)
        · refine ⟨_, rfl, ?_⟩
          refine ifF (by simp) ?_
          exact noK (by rw [Bool.eq_false_iff.mpr q]; rfl)
    rintro H10 ⟨s10, e10⟩
    rw [List.length_map, List.take_length] at e10
    obtain ⟨nn, enn⟩ : ∃ nn, nn = ns.filter fun k => decide (0 ≤ k) && decide (k < z.many) := ⟨_, rfl⟩
    rw [← enn] at e10
    refine ⟨D2, rfl, ⟨_, SqL.of e10⟩, ?_⟩
    refine for_list (K := K) (a := D2) (xs := nn.map V.int) (fun j σ H11 => Same H10 H11 ∧ ∃ v3 v5, σ = [some (.ref p), some (.ref a), some (.ref l), v3, some (.ref D), v5]) ⟨Same.refl _, _, _, rfl⟩ (fun j σ H11 _ q => SqL.of (q.1 _ _ e10)) ?_ ?_
    · rintro j y σ H11 hy ⟨s11, v3, v5, rfl⟩
      rw [List.getElem?_map] at hy
      cases hj : nn[j]? with
      | none => rw [hj] at hy; cases hy
      | some kk =>
        rw [hj] at hy
        have hy' : V.int kk = y := Option.some.inj hy
        subst hy'
        have hin : kk ∈ nn := List.mem_of_getElem? hj
        rw [enn, List.mem_filter] at hin
        have hb : 0 ≤ kk ∧ kk < z.many := by
          have := hin.2
          simp only [Bool.and_eq_true, decide_eq_true_eq] at this
          exact this
        have smk := hns kk hin.1
        have Z11 := (Z9.same s10).same s11
        have S11 := (S9.same s10).same s11
        have inr : inR sz kk := ⟨hb.1, by rw [R.many]; exact hb.2⟩
        obtain ⟨dx', kvs', h11, _⟩ := id S11
        refine ⟨_, rfl, _, rfl, a, o, g, z, kk, rfl, Z11, ?_⟩
        refine ⟨_, rfl, _, _, rfl, dg_own Z11.ha, o, rfl, .inl ⟨_, .inl Z11.ho⟩, _, rfl, _, rfl, _, _, rfl, dg_common Z11.ha, _, dg_own1 Z11.ho kk, _, rfl, _, rfl, _, _, rfl, dg_gone Z11.ha, g, _, rfl, dg_gone1 Z11.hg kk, _, rfl, _, rfl, a, o, g, z, kk, rfl, Z11, fun H12 s12 => ?_⟩
        rw [opt_int, gone_some]
        refine ⟨(by show 4 ≤ sizeLine; decide), fun l5 n5 => ?_⟩
        have s13 := same_new n5 (.lst [.int (zsz z kk), .int ((zown z.own kk).getD z.common), .bl (decide (kk ∈ z.gone)), .int (zah z kk)])
        have S13 := (S11.same s12).same s13
        have h13 := s13 _ _ (s12 _ _ h11)
        refine ⟨_, rfl, p, dx', _, rfl, h13, fz_no _ _ _, _, rfl, p, d, sz, kk, rfl, S13.r, smk, fun _ H14 s14 => ?_, fun no => absurd inr no⟩
        refine ⟨_, rfl, p, dx', _, rfl, s14 _ _ h13, fz_no _ _ _, _, rfl, p, d, sz, kk, rfl, S13.r.same s14, smk, fun _ H15 s15 => ?_, fun no => absurd inr no⟩
        have s145 := s14.trans s15
        refine ⟨_, rfl, p, dx', _, rfl, s145 _ _ h13, fz_no _ _ _, _, rfl, p, d, sz, kk, rfl, S13.r.same s145, smk, fun _ H16 s16 => ?_, fun no => absurd inr no⟩
        have s146 := s145.trans s16
        refine ⟨_, rfl, p, dx', _, rfl, s146 _ _ h13, fz_no _ _ _, _, rfl, p, d, sz, kk, rfl, S13.same s146, smk, fun _ H17 s17 => ?_, fun no => absurd ⟨inr.1, Int.le_of_lt inr.2⟩ no⟩
        refine ⟨(by show 4 ≤ sizeLine; decide), fun l6 n6 => ?_⟩
        have s18 := same_new n6 (.lst [.int (szM sz kk), .int (stM sz kk).1, .bl (stM sz kk).2, .int (ahM sz kk)])
        have s19 := s146.trans (s17.trans s18)
        have est : stM sz kk = ((zown z.own kk).getD z.common, decide (kk ∈ z.gone)) := R.st kk
        refine ⟨_, rfl, _, _, .list [.int (zsz z kk), .int ((zown z.own kk).getD z.common), .bool (decide (kk ∈ z.gone)), .int (zah z kk)], rfl, ?_, ?_, ?_, ?_, fun H20 s20 => ⟨_, rfl, ?_⟩⟩
        · refine .lst (SqL.of upd_same) ?_
          exact .cons (dpI (R.sz kk)) (.cons (dpI (by rw [est])) (.cons (dpB (by rw [est])) (.cons (dpI (R.ah kk)) .nil)))
        · exact .lst (SqL.of (s19 _ _ upd_same)) (.cons (.int _) (.cons (.int _) (.cons (.bl _) (.cons (.int _) .nil))))
        · simp [PyData.depth, PyData.depthAll]
        · simp [mxl, mxlAll]
        refine ifF (by simp) ?_
        exact ⟨s11.trans (s12.trans (s13.trans (s19.trans s20))), _, _, rfl⟩
    rintro σ H11 ⟨s11, v3, v5, rfl⟩
    exact k1 _ (sC.trans (s10.trans s11))
abbrev s_far : Stmt := top 17
theorem sc_far : FnScope ["_law_draw", "_law_number"] ["_law_draw"] (defScope s_far) := ⟨rfl, rfl, rfl, by decide +kernel, rfl, by decide +kernel, by decide +kernel⟩
theorem ok_far (F : Fun K "_law_far" "_law_far" s_far f fd) (T : Tx K mg C cN cP cM cS cF tG tM tO tU) (D_pick : Dn P w K mg base CX0 1 "_law_pick" ["_law_draw", "_law_many"] spPick) : FnOk P w K mg base CX0 2 f fd ["_law_draw"] spFar := by
  refine F.ok sc_far (fun vs H Q E h => ?_) (fun cdv A outer s H vs Q E hr h => ?_)
  · obtain ⟨a, rfl, _⟩ := h
    rfl
  · obtain ⟨a, rfl, D0, k⟩ := h
    refine ⟨_, (pss_cons (ps_set (i := 1) sc_far.nd rfl (.inl rfl) (pe_op op_add (pe_op op_add (pe_op op_mul pe_int (pe_op op_pow pe_int pe_int)) (pe_callD D_pick (hr.mono (by omega)) (by rfl) pass0 (pa_cons (pv 0) (pa_cons (pe_op op_pow pe_int pe_int) pa_nil)))) (pe_op op_mul (pe_op op_pow pe_int pe_int) (pe_callD D_pick (hr.mono (by omega)) (by rfl) pass0 (pa_cons (pv 0) (pa_cons pe_int pa_nil))))))
      (pss_one (ps_ret (pe_ix ix_tup (pe_tup (pa_cons (pv 1) (pa_cons (pe_op op_sub pe_int (pv 1)) pa_nil))) (pe_callD D_pick (hr.mono (by omega)) (by rfl) pass0 (pa_cons (pv 0) (pa_cons pe_int pa_nil))) (fun _ _ => rfl))))), ?_⟩
    refine ⟨_, _, rfl, rfl, ⟨by decide, by decide, by decide⟩, _, _, rfl, rfl, .inl ⟨by decide, by decide⟩, _, rfl, _, _, rfl, rfl, ⟨by decide, by decide, by decide⟩, _, _, rfl, D0, by decide, by decide, fun r1 H1 a1 b1 D1 q1 => ?_⟩
    refine ⟨_, _, rfl, rfl, _, _, rfl, rfl, ⟨by decide, by decide, by decide⟩, _, rfl, _, _, rfl, D1, by decide, by decide, fun r2 H2 a2 b2 D2 q2 => ?_⟩
    refine ⟨_, _, rfl, rfl, .inr ⟨by omega, by omega⟩, _, _, rfl, rfl, ?_⟩
    have b1' : r1 < 1000000000 := b1
    obtain ⟨n, en⟩ : ∃ n : Int, n = 2 * 10 ^ Int.toNat 6 + r1 + 10 ^ Int.toNat 29 * r2 := ⟨_, rfl⟩
    have n0 : 1000000 < n := by
      rw [en, show (10 : Int) ^ Int.toNat 6 = 1000000 from by decide, show (10 : Int) ^ Int.toNat 29 = 100000000000000000000000000000 from by decide]
      omega
    have n1 : n ≤ 10 ^ 40 := by
      rw [en, show (10 : Int) ^ Int.toNat 6 = 1000000 from by decide, show (10 : Int) ^ Int.toNat 29 = 100000000000000000000000000000 from by decide]
      omega
    show gName 1 (V.int (2 * 10 ^ Int.toNat 6 + r1 + 10 ^ Int.toNat 29 * r2)) _ _ _
    rw [← en]
    refine ⟨_, rfl, _, rfl, _, _, rfl, rfl, (by show 2 ≤ sizeLine; decide), fun t ht => ?_⟩
    have s3 := same_new ht (.tup [.int n, .int (0 - n)])
    refine ⟨_, rfl, _, _, rfl, D2.same s3, by decide, by decide, fun r3 H3 a3 b3 D3 q3 => ?_⟩
    have x3 : Gs.Ext a H H3 := ((Ext.pick D1 q1).trans ((Ext.pick D2 q2).same s3)).trans (Ext.pick D3 q3)
    have ht3 : H3 t = some (.tup [.int n, .int (0 - n)]) := (Ext.pick D3 q3).tup (D2.same s3) upd_same
    have : r3 = 0 ∨ r3 = 1 := by omega
    rcases this with rfl | rfl
    · exact ⟨t, _, _, _, rfl, rfl, SqT.of ht3, atI_nat (j := 0) rfl, k n H3 (Sm.of (by omega) n1) (.inr n0) x3⟩
    · exact ⟨t, _, _, _, rfl, rfl, SqT.of ht3, atI_nat (j := 1) rfl, k (0 - n) H3 (Sm.of (by omega) (by omega)) (.inl (by omega)) x3⟩
abbrev s_z : Stmt := top 23
theorem sc_z : FnScope ["_law_many", "_law_usual"] ["_law_many", "_law_usual"] (defScope s_z) := ⟨rfl, rfl, rfl, by decide +kernel, rfl, by decide +kernel, by decide +kernel⟩
theorem ok_z (F : Fun K "_law_z" "_law_z" s_z f fd) (T : Tx K mg C cN cP cM cS cF tG tM tO tU)  : FnOk P w K mg base CX0 1 f fd ["_law_many", "_law_usual"] spZnew := by
  refine F.ok sc_z (fun vs H Q E h => ?_) (fun cdv A outer s H vs Q E hr h => ?_)
  · obtain ⟨n, c, rfl, _⟩ := h
    rfl
  · obtain ⟨n, c, rfl, hn, hc, k⟩ := h
    refine ⟨_, (pss_one (ps_ret (pe_disp (pps_cons pe_str (pv 0) (pps_cons pe_str (pv 1) (pps_cons pe_str pe_dnewK (pps_cons pe_str pe_dnewK pps_nil)))) (by rfl) (by rfl) (fun z => by cases z) (by decide)))), ?_⟩
    refine fun a na => ⟨_, rfl, _, rfl, fun o no => fun g ng => ?_⟩
    have s1 := same_new na (.dK [])
    have s2 := same_new no (.dK [])
    have s3 := same_new ng (.dK [])
    have ha : upd (upd (upd H a (.dK [])) o (.dK [])) g (.dK []) a = some (.dK []) := s3 _ _ (s2 _ _ upd_same)
    have ao : a ≠ o := ne_of_none upd_same no
    have og : o ≠ g := ne_of_none upd_same ng
    have ag : a ≠ g := ne_of_none (s2 _ _ upd_same) ng
    refine ⟨ha, zL n c o g, rfl, (by show 4 ≤ 15; decide), ?_⟩
    rw [merge_zL]
    have so : Same H (upd (upd (upd (upd H a (.dK [])) o (.dK [])) g (.dK [])) a (.dK (zL n c o g))) := fun b v q => by
      rw [upd_ne (ne_of_none q na)]
      exact s3 _ _ (s2 _ _ (s1 _ _ q))
    refine k a o g _ so ⟨upd_same, ?_, ?_, ao, ag, og, ⟨hn.1, hn.2, hc.1, hc.2, by show 0 < 64; decide, by show 0 ≤ 1000; decide, by show 0 ≤ 1000; decide, fun k hk => nomatch hk⟩⟩ na (s1.free no) (s1.free (s2.free ng))
    · rw [upd_ne ao.symm]
      exact s3 _ _ upd_same
    · rw [upd_ne ag.symm]
      exact upd_same
end
end K01

set_option Elab.async false
set_option linter.all false
set_option maxRecDepth 100000
set_option maxHeartbeats 4000000
namespace K01
open PySem L2 Gs
structure Tx2 (K : PySem.W.Frag) (mg : Str → Option Value) (cN cM cS cG : Addr) : Prop where
  x_GridError : ExcOk K mg "GridError" cG veL "ValueError.__new__"
  no_ValueError : mg "ValueError" = none
  no_IndexError : mg "IndexError" = none
  mg_ : PySem.W.subIn K (.ref cM) (.ref cG) = some true
  sg : PySem.W.subIn K (.ref cS) (.ref cG) = some true
  ms : PySem.W.subIn K (.ref cM) (.ref cS) = some false
  sm : PySem.W.subIn K (.ref cS) (.ref cM) = some false
  mv : PySem.W.subIn K (.ref cM) (.type "ValueError") = some true
  sv : PySem.W.subIn K (.ref cS) (.type "ValueError") = some true
  ni : PySem.W.subIn K (.ref cN) (.type "IndexError") = some true
  eM : ExcC K cM
  eS : ExcC K cS
  eN : ExcC K cN
section
variable {P : Program} {w : World} {K : PySem.W.Frag} {mg : Str → Option Value} {base : Heap} {f : Addr} {fd : FuncData} {C cN cP cM cS cF : Addr} {tG tM tO tU : Tok} {cG : Addr}
abbrev s_Sizes_eq : Stmt := inClass (top 13) 1
theorem sc_Sizes_eq : FnScope ["self", "other"] ["self", "other"] (defScope s_Sizes_eq) := ⟨rfl, rfl, rfl, by decide +kernel, rfl, by decide +kernel, by decide +kernel⟩
theorem ok_eq (F : Fun K "__eq__" "Sizes.__eq__" s_Sizes_eq f fd) (T : Tx K mg C cN cP cM cS cF tG tM tO tU)  : FnOk P w K mg base CX0 1 f fd ["self", "other"] (spEq (EqR0 C)) := by
  refine F.ok sc_Sizes_eq (fun vs H Q E h => ?_) (fun cdv A outer s H vs Q E hr h => ?_)
  · obtain ⟨a, b, rfl, _⟩ := h
    rfl
  · obtain ⟨a, b, rfl, ⟨d, e, n, c, S1, S2⟩, k⟩ := h
    obtain ⟨dx, kvs, h1, h2, h3, W⟩ := S1
    obtain ⟨dy, kws, g1, g2, g3, _⟩ := S2
    cases h3
    cases g3
    refine ⟨_, (pss_one (ps_ret (pe_and (pe_callB (C8.call_isC T.ins) (by rfl) T.no_isinstance (by decide +kernel) (pa_cons (pv 1) (pa_cons (glR (by rfl) T.mgC) pa_nil))) (pe_and (pe_cmpR op_eq (pe_fld (pv 0) rfl) (pe_fld (pv 1) rfl) (nomark _)) (pe_and (pe_cmpR op_eq (pe_fld (pv 0) rfl) (pe_fld (pv 1) rfl) (nomark _)) (pe_one (pe_cmpR (op_eq_dict hr.units0) (pe_fld (pv 0) rfl) (pe_fld (pv 1) rfl) (nomark _)))))))), ?_⟩
    refine ⟨_, rfl, b, dy, _, rfl, g1, _, rfl, ?_⟩
    refine ifT rfl ?_
    refine ⟨_, rfl, a, C, dx, _, _, rfl, h1, T.cl, T.n_many, fz_many _ _ _, _, rfl, b, C, dy, _, _, rfl, g1, T.cl, T.n_many, fz_many _ _ _, rfl, _, rfl, ?_⟩
    refine ifT (by simp) ?_
    refine ⟨_, rfl, a, C, dx, _, _, rfl, h1, T.cl, T.n_common, fz_common _ _ _, _, rfl, b, C, dy, _, _, rfl, g1, T.cl, T.n_common, fz_common _ _ _, rfl, _, rfl, ?_⟩
    refine ifT (by simp) ?_
    exact ⟨_, rfl, a, C, dx, _, _, rfl, h1, T.cl, T.n_odd, fz_odd _ _ _, _, rfl, b, C, dy, _, _, rfl, g1, T.cl, T.n_odd, fz_odd _ _ _, d, e, [], rfl, rfl, h2, g2, List.nodup_nil, (fun p hp => by cases hp), k _ (fun _ _ q => q)⟩
abbrev s_made : Stmt := top 24
theorem sc_made : FnScope ["_law_many", "_law_usual", "e"] ["_law_many", "_law_usual"] (defScope s_made) := ⟨rfl, rfl, rfl, by decide +kernel, rfl, by decide +kernel, by decide +kernel⟩
theorem ok_made (F : Fun K "_law_made" "_law_made" s_made f fd) (T : Tx K mg C cN cP cM cS cF tG tM tO tU) (D_Sizes : Cn P w K mg base (L2.CX P w) 2 C "Sizes" (spInit C cM cS)) (T2 : Tx2 K mg cN cM cS cG) : FnOk P w K mg base CX0 4 f fd ["_law_many", "_law_usual"] (spMade C) := by
  refine F.ok sc_made (fun vs H Q E h => ?_) (fun cdv A outer s H vs Q E hr h => ?_)
  · obtain ⟨n, c, rfl, _⟩ := h
    rfl
  · obtain ⟨n, c, rfl, hn, hc, k1, k2⟩ := h
    refine ⟨_, (pss_one (ps_try_as (i := 2) rfl rfl sc_made.nd rfl rfl ⟨rfl, by decide, .inl T2.x_GridError.g⟩ takes0 (fun W pn xe tk _ => (pss_one (ps_ret (pe_mkSD D_Sizes (hr.mono (by omega)) (by rfl) (fun σ => passAt tk σ) (pa_cons (pv 0) pa_nil) (pk_cons (pv 1) pk_nil))))) (fun a oe cls d pn hz hf => (pss_one (ps_ret (pe_lst (pa_cons (pe_callB (call_isX hz hf) (by rfl) T.no_isinstance (by decide +kernel) (pa_cons (pv 2) (pa_cons (glR (by rfl) T.x_BadMany.g) pa_nil))) (pa_cons (pe_callB (call_isX hz hf) (by rfl) T.no_isinstance (by decide +kernel) (pa_cons (pv 2) (pa_cons (glR (by rfl) T.x_BadSize.g) pa_nil))) (pa_cons (pe_callB (call_isX hz hf) (by rfl) T.no_isinstance (by decide +kernel) (pa_cons (pv 2) (pa_cons (pe_bltn (v := .ty "ValueError") (by rfl) T2.no_ValueError (by decide +kernel) rfl) pa_nil))) pa_nil))))))))), ?_⟩
    have nMS : cM ≠ cS := by
      intro e
      have := T2.ms
      rw [← e, T.x_BadMany.sf] at this
      cases this
    refine ⟨_, rfl, _, rfl, rfl, rfl, fun x dx nx nd ne => ?_⟩
    have s0 := new2 nx nd ne (.own x) (.ins C dx [])
    refine ⟨x, dx, n, c, rfl, upd_same, hn, hc, fun g d H1 hd S1 fr => ?_, fun no => ?_, fun yes no => ?_⟩
    · refine ⟨rfl, k1 g x d H1 (fun b o q => fr b o (s0 _ _ q) (ne_of_none q nx)) S1⟩
    · refine ⟨true, exm_own T2.x_GridError.b T2.x_GridError.cl T2.x_GridError.t T2.mg_, fun _ e' he' => ?_, fun q => nomatch q⟩
      refine ⟨_, rfl, cM, _, _, true, rfl, rfl, T2.eM, rfl, rel_ref, kit_same, ?_⟩
      refine ⟨_, rfl, cM, _, _, false, rfl, rfl, T2.eM, rfl, rel_ref, kit_own nMS T.x_BadSize.cl T.x_BadSize.t T2.ms, ?_⟩
      refine ⟨_, rfl, cM, _, _, true, rfl, rfl, T2.eM, rfl, rel_ty, kit_tyE (by decide +kernel) T2.mv, (by show 3 ≤ sizeLine; decide), fun l hl => ?_⟩
      refine k2 (fun g => no g.1) l _ (s0.trans (same_new hl _)) ?_
      rw [upd_same, decide_eq_false no]
      rfl
    · refine ⟨true, exm_own T2.x_GridError.b T2.x_GridError.cl T2.x_GridError.t T2.sg, fun _ e' he' => ?_, fun q => nomatch q⟩
      refine ⟨_, rfl, cS, _, _, false, rfl, rfl, T2.eS, rfl, rel_ref, kit_own nMS.symm T.x_BadMany.cl T.x_BadMany.t T2.sm, ?_⟩
      refine ⟨_, rfl, cS, _, _, true, rfl, rfl, T2.eS, rfl, rel_ref, kit_same, ?_⟩
      refine ⟨_, rfl, cS, _, _, true, rfl, rfl, T2.eS, rfl, rel_ty, kit_tyE (by decide +kernel) T2.sv, (by show 3 ≤ sizeLine; decide), fun l hl => ?_⟩
      refine k2 (fun g => no g.2) l _ (s0.trans (same_new hl _)) ?_
      rw [upd_same, decide_eq_true yes]
      rfl
abbrev s_refused : Stmt := top 25
theorem sc_refused : FnScope ["_law_sizes", "_law_number", "_law_way", "e"] ["_law_sizes", "_law_number", "_law_way"] (defScope s_refused) := ⟨rfl, rfl, rfl, by decide +kernel, rfl, by decide +kernel, by decide +kernel⟩
theorem ok_refused (F : Fun K "_law_refused" "_law_refused" s_refused f fd) (T : Tx K mg C cN cP cM cS cF tG tM tO tU) (T2 : Tx2 K mg cN cM cS cG) (M_size : Mn P w K mg base (L2.CX P w) 3 C "size" ["self", "number"] (spSize C cN)) (M_own : Mn P w K mg base (L2.CX P w) 3 C "own" ["self", "number"] (spOwn C cN)) (M_hidden : Mn P w K mg base (L2.CX P w) 3 C "hidden" ["self", "number"] (spHid C cN)) (M_ahead : Mn P w K mg base (L2.CX P w) 4 C "ahead" ["self", "number"] (spAhead C cN)) : FnOk P w K mg base CX0 5 f fd ["_law_sizes", "_law_number", "_law_way"] (spRef C) := by
  refine F.ok sc_refused (fun vs H Q E h => ?_) (fun cdv A outer s H vs Q E hr h => ?_)
  · obtain ⟨p, d, z, i, way, rfl, _⟩ := h
    rfl
  · obtain ⟨p, d, z, i, way, rfl, S, hi, hw, w3, wn, k⟩ := h
    obtain ⟨dx, kvs, h1, h2, h3, W⟩ := id S
    refine ⟨_, (pss_one (ps_try_as (i := 3) rfl rfl sc_refused.nd rfl rfl ⟨rfl, by decide, .inl T.x_NoIndex.g⟩ takes0 (fun W pn xe tk _ => (pss_cons (ps_if (pt_cmpR op_eq (pv 2) pe_int (nomark _)) (pss_one (ps_expr (pe_methSD T.cl M_size (hr.mono (by omega)) (fun σ => passAt tk σ) (pv 0) (pa_cons (pv 1) pa_nil)))) (pss_one (ps_if (pt_cmpR op_eq (pv 2) pe_int (nomark _)) (pss_one (ps_expr (pe_methSD T.cl M_own (hr.mono (by omega)) (fun σ => passAt tk σ) (pv 0) (pa_cons (pv 1) pa_nil)))) (pss_one (ps_if (pt_cmpR op_eq (pv 2) pe_int (nomark _)) (pss_one (ps_expr (pe_methSD T.cl M_hidden (hr.mono (by omega)) (fun σ => passAt tk σ) (pv 0) (pa_cons (pv 1) pa_nil)))) (pss_one (ps_expr (pe_methSD T.cl M_ahead (hr.mono (by omega)) (fun σ => passAt tk σ) (pv 0) (pa_cons (pv 1) pa_nil)))))))))
        (pss_one (ps_ret pe_bl)))) (fun a oe cls d pn hz hf => (pss_one (ps_ret (pe_callB (call_isX hz hf) (by rfl) T.no_isinstance (by decide +kernel) (pa_cons (pv 3) (pa_cons (pe_bltn (v := .ty "IndexError") (by rfl) T2.no_IndexError (by decide +kernel) rfl) pa_nil)))))))), ?_⟩
    refine ⟨_, rfl, rfl, _, rfl, ?_⟩
    refine ite2 (fun c => ?_) (fun c => ?_)
    · have e : way = 0 := by have := of_decide_eq_true c; injection this
      refine ⟨_, rfl, p, dx, _, rfl, h1, fz_no _ _ _, _, rfl, p, d, z, i, rfl, S.r, hi, fun y => absurd y (wn (by omega)), fun _ => ?_⟩
      exact ⟨true, T.x_NoIndex.me, fun _ e' he' => ⟨_, rfl, cN, _, _, true, rfl, rfl, T2.eN, rfl, rel_ty, kit_tyE (by decide +kernel) T2.ni, k H (Same.refl H)⟩, fun q => nomatch q⟩
    · have e0 : ¬ way = 0 := fun q => c (decide_eq_true (congrArg V.int q))
      refine ⟨_, rfl, rfl, _, rfl, ?_⟩
      refine ite2 (fun c => ?_) (fun c => ?_)
      · have e : way = 1 := by have := of_decide_eq_true c; injection this
        refine ⟨_, rfl, p, dx, _, rfl, h1, fz_no _ _ _, _, rfl, p, d, z, i, rfl, S.r, hi, fun y => absurd y (wn (by omega)), fun _ => ?_⟩
        exact ⟨true, T.x_NoIndex.me, fun _ e' he' => ⟨_, rfl, cN, _, _, true, rfl, rfl, T2.eN, rfl, rel_ty, kit_tyE (by decide +kernel) T2.ni, k H (Same.refl H)⟩, fun q => nomatch q⟩
      · have e1 : ¬ way = 1 := fun q => c (decide_eq_true (congrArg V.int q))
        refine ⟨_, rfl, rfl, _, rfl, ?_⟩
        refine ite2 (fun c => ?_) (fun c => ?_)
        · have e : way = 2 := by have := of_decide_eq_true c; injection this
          refine ⟨_, rfl, p, dx, _, rfl, h1, fz_no _ _ _, _, rfl, p, d, z, i, rfl, S.r, hi, fun y => absurd y (wn (by omega)), fun _ => ?_⟩
          exact ⟨true, T.x_NoIndex.me, fun _ e' he' => ⟨_, rfl, cN, _, _, true, rfl, rfl, T2.eN, rfl, rel_ty, kit_tyE (by decide +kernel) T2.ni, k H (Same.refl H)⟩, fun q => nomatch q⟩
        · have e2 : ¬ way = 2 := fun q => c (decide_eq_true (congrArg V.int q))
          refine ⟨_, rfl, p, dx, _, rfl, h1, fz_no _ _ _, _, rfl, p, d, z, i, rfl, S, hi, fun y => absurd y (w3 (by omega)), fun _ => ?_⟩
          exact ⟨true, T.x_NoIndex.me, fun _ e' he' => ⟨_, rfl, cN, _, _, true, rfl, rfl, T2.eN, rfl, rel_ty, kit_tyE (by decide +kernel) T2.ni, k H (Same.refl H)⟩, fun q => nomatch q⟩
end
end K01

set_option Elab.async false
set_option linter.all false
set_option maxRecDepth 100000
set_option maxHeartbeats 4000000
namespace K01
open PySem L2 Gs
def spLaw (K : PySem.W.Frag) : Sp := fun vs H Q _ => ∃ (a : Addr) (ns : List Int), vs = [.ref a] ∧ SqL K H a (ns.map V.int) ∧ ns.length ≤ 63 ∧ ∀ H', Q (.bl true) H'
theorem ints_at {xs : List Int} {r : Int} (h0 : 0 ≤ r) (h1 : r < (xs.length : Int)) : ∃ n, n ∈ xs ∧ atI (xs.map V.int) r = some (.int n) := by
  have hk : r.toNat < xs.length := by omega
  refine ⟨xs[r.toNat], List.getElem_mem hk, at_of (j := r.toNat) (by omega) ?_⟩
  rw [List.getElem?_map, List.getElem?_eq_getElem hk]
  rfl
theorem rel0 (n c : Int) : Rel ⟨n, c, []⟩ ⟨n, c, [], []⟩ := ⟨rfl, rfl, fun k => rfl, .nil⟩
theorem ah0 (n c i : Int) : ahM ⟨n, c, []⟩ i = i * c := by
  unfold ahM
  simp
section
variable {P : Program} {w : World} {K : PySem.W.Frag} {mg : Str → Option Value} {base : Heap} {f : Addr} {fd : FuncData} {C cN cP cM cS cF : Addr} {tG tM tO tU : Tok}
abbrev s_law : Stmt := top 26
theorem sc_law : FnScope ["_law_script", "_law_draw", "_law_k", "_law_some", "_law_many", "_law_usual", "_law_due", "_law_sizes", "_law_way"] ["_law_script"] (defScope s_law) := ⟨rfl, rfl, rfl, by decide +kernel, rfl, by decide +kernel, by decide +kernel⟩
theorem ok_law (F : Fun K "law" "law" s_law f fd) (T : Tx K mg C cN cP cM cS cF tG tM tO tU) (D_begin : Dn P w K mg base CX0 1 "_law_begin" ["_law_script"] (spBegin K)) (D_pick : Dn P w K mg base CX0 1 "_law_pick" ["_law_draw", "_law_many"] spPick) (D_far : Dn P w K mg base CX0 2 "_law_far" ["_law_draw"] spFar)
    (D_same : Dn P w K mg base CX0 3 "_law_same" ["_law_found", "_law_due"] (spSame K 3)) (D_made : Dn P w K mg base CX0 4 "_law_made" ["_law_many", "_law_usual"] (spMade C)) (D_refused : Dn P w K mg base CX0 5 "_law_refused" ["_law_sizes", "_law_number", "_law_way"] (spRef C))
    (D_z : Dn P w K mg base CX0 1 "_law_z" ["_law_many", "_law_usual"] spZnew) (D_z_stands : Dn P w K mg base CX0 6 "_law_z_stands" ["_law_sizes", "_law_z_here", "_law_some"] (spZst K C)) (D_Sizes : Cn P w K mg base (L2.CX P w) 2 C "Sizes" (spInit C cM cS)) (D_Sizes1 : Cn1 P w K mg base (L2.CX P w) 2 C "Sizes" (spInit C cM cS))
    (M_ahead : Mn P w K mg base (L2.CX P w) 4 C "ahead" ["self", "number"] (spAhead C cN)) (M_total : Mn P w K mg base CX0 5 C "total" ["self"] (spTotal C)) (M_repr : Mn P w K mg base CX0 1 C "__repr__" ["self"] (spRepr C)) (M_eq : Mn P w K mg base CX0 1 C "__eq__" ["self", "other"] (spEq (EqR0 C))) : FnOk P w K mg base CX0 7 f fd ["_law_script"] (spLaw K) := by
  refine F.ok sc_law (fun vs H Q E h => ?_) (fun cdv A outer s H vs Q E hr h => ?_)
  · obtain ⟨a, ns, rfl, _⟩ := h
    rfl
  · obtain ⟨scr, ns, rfl, hS, h63, k⟩ := h
    refine ⟨_, (pss_cons (ps_set (i := 1) sc_law.nd rfl (.inl rfl) (pe_callD D_begin (hr.mono (by omega)) (by rfl) pass0 (pa_cons (pv 0) pa_nil)))
      (pss_cons (ps_for PassesOwn.never rfl (pi_range1 (by rfl) T.no_range (pa_cons pe_int pa_nil)) (pg_name (i := 2) sc_law.nd rfl (.inl rfl))
        (pss_cons (ps_set (i := 3) sc_law.nd rfl (.inl rfl) (pe_tup (pa_cons (pe_op op_add pe_int (pe_callD D_pick (hr.mono (by omega)) (by rfl) pass0 (pa_cons (pv 1) (pa_cons pe_int pa_nil)))) (pa_cons (pe_op op_add pe_int (pe_callD D_pick (hr.mono (by omega)) (by rfl) pass0 (pa_cons (pv 1) (pa_cons (pe_op op_pow pe_int pe_int) pa_nil)))) (pa_cons (pe_op op_pow pe_int pe_int) (pa_cons pe_int (pa_cons pe_int (pa_cons (pe_op op_add (pe_op op_pow pe_int pe_int) pe_int) (pa_cons (pe_callD D_far (hr.mono (by omega)) (by rfl) pass0 (pa_cons (pv 1) pa_nil)) pa_nil)))))))))
        (pss_cons (ps_set (i := 4) sc_law.nd rfl (.inr rfl) (pe_ix ix_tup (pv 3) (pe_callD D_pick (hr.mono (by omega)) (by rfl) pass0 (pa_cons (pv 1) (pa_cons pe_int pa_nil))) (fun _ _ => rfl)))
        (pss_cons (ps_set (i := 5) sc_law.nd rfl (.inl rfl) (pe_ix ix_tup (pe_tup (pa_cons (pe_op op_add pe_int (pe_callD D_pick (hr.mono (by omega)) (by rfl) pass0 (pa_cons (pv 1) (pa_cons pe_int pa_nil)))) (pa_cons pe_int (pa_cons pe_int (pa_cons pe_int (pa_cons pe_int (pa_cons (pe_callD D_far (hr.mono (by omega)) (by rfl) pass0 (pa_cons (pv 1) pa_nil)) pa_nil))))))) (pe_callD D_pick (hr.mono (by omega)) (by rfl) pass0 (pa_cons (pv 1) (pa_cons pe_int pa_nil))) (fun _ _ => rfl)))
        (pss_cons (ps_set (i := 6) sc_law.nd rfl (.inl rfl) (pe_lst (pa_cons pe_bl (pa_cons pe_bl (pa_cons pe_bl pa_nil)))))
        (C8.pss_cut (ps_if (pt_chain op_le op_le pe_int (pv 4) (pe_op op_pow pe_int pe_int)) (pss_one (ps_set (i := 6) sc_law.nd rfl (.inl rfl) (pe_lst (pa_cons pe_bl (pa_cons pe_bl (pa_cons pe_bl pa_nil)))))) pss_nil)
        (pss_cons (ps_set (i := 7) sc_law.nd rfl (.inr rfl) (pe_callD D_made (hr.mono (by omega)) (by rfl) pass0 (pa_cons (pv 4) (pa_cons (pv 5) pa_nil))))
        (pss_one (ps_if (PW.pt (pw_or (pt_val (pe_ix ix_list (pv 6) pe_int (fun _ _ => rfl))) (pw_or1 (pt_not (pt_chain op_le op_le pe_int (pv 5) pe_int))))) (pss_one (ps_if (pt_not (pt_val (pe_callD D_same (hr.mono (by omega)) (by rfl) pass0 (pa_cons (pv 7) (pa_cons (pv 6) pa_nil))))) (pss_one (ps_ret pe_bl)) pss_nil)) (pss_cons (ps_set (i := 3) sc_law.nd rfl (.inl rfl) (pe_lst (pa_cons pe_int (pa_cons (pe_op op_sub (pv 4) pe_int) (pa_cons (pe_callD D_pick (hr.mono (by omega)) (by rfl) pass0 (pa_cons (pv 1) (pa_cons (pv 4) pa_nil))) (pa_cons (pe_callD D_pick (hr.mono (by omega)) (by rfl) pass0 (pa_cons (pv 1) (pa_cons (pv 4) pa_nil))) pa_nil))))))
          (pss_cons (ps_if (PW.pt (pw_or (pt_not (pt_val (pe_callD D_z_stands (hr.mono (by omega)) (by rfl) pass0 (pa_cons (pv 7) (pa_cons (pe_callD D_z (hr.mono (by omega)) (by rfl) pass0 (pa_cons (pv 4) (pa_cons (pv 5) pa_nil))) (pa_cons (pv 3) pa_nil)))))) (pw_or1 (pt_cmpR op_ne (pe_methD T.cl M_ahead (hr.mono (by omega)) passL (pv 7) (pa_cons (pv 4) pa_nil)) (pe_op op_mul (pv 4) (pv 5)) (nomark _))))) (pss_one (ps_ret pe_bl)) pss_nil)
          (pss_cons (ps_if (PW.pt (pw_or (pt_cmpR op_ne (pe_callB (call_reprD M_repr (hr.mono (by omega)) pass0) (by rfl) T.no_repr (by decide +kernel) (pa_cons (pv 7) pa_nil)) (pe_op op_add_str (pe_op op_add_str (pe_op op_add_str pe_str (pe_callTy call_str_int (by rfl) T.no_str (by decide +kernel) (pa_cons (pv 4) pa_nil))) pe_str) (pe_callTy call_str_int (by rfl) T.no_str (by decide +kernel) (pa_cons (pv 5) pa_nil))) (nomark _)) (pw_or1 (pt_cmpR op_ne (pe_fld (pv 7) rfl) (pv 5) (nomark _))))) (pss_one (ps_ret pe_bl)) pss_nil)
          (pss_cons (ps_if (pt_not (pt_val (pe_callB (cr_all rfl) (by rfl) T.no_all (by decide +kernel) (pa_cons (pe_lc (own := [("_law_way", 8)]) (g := gName 8) rfl sc_law.nd (pi_range1 (by rfl) T.no_range (pa_cons pe_int pa_nil)) (blkOk_by (N := ["_law_script", "_law_draw", "_law_k", "_law_some", "_law_many", "_law_usual", "_law_due", "_law_sizes", "_law_way"]) (sc := defScope s_law) (by decide +kernel)) (fun _ _ _ _ _ => (pg_name (i := 8) sc_law.nd rfl (Or.inl rfl))) (fun _ _ _ _ _ => pts_nil) (fun _ _ _ _ _ => (pe_callD D_refused (hr.mono (by omega)) (by rfl) pass0 (pa_cons (pv 7) (pa_cons (pe_op op_add (pv 4) (pe_callTy call_int1 (by rfl) T.no_int (by decide +kernel) (pa_cons (pe_cmpR op_eq (pv 8) pe_int (nomark _)) pa_nil))) (pa_cons (pv 8) pa_nil)))))) pa_nil)))) (pss_one (ps_ret pe_bl)) pss_nil)
          (pss_one (ps_if (pt_not (pt_val (pe_callB (cr_all rfl) (by rfl) T.no_all (by decide +kernel) (pa_cons (pe_lc (own := [("_law_way", 8)]) (g := gName 8) rfl sc_law.nd (pi_range1 (by rfl) T.no_range (pa_cons pe_int pa_nil)) (blkOk_by (N := ["_law_script", "_law_draw", "_law_k", "_law_some", "_law_many", "_law_usual", "_law_due", "_law_sizes", "_law_way"]) (sc := defScope s_law) (by decide +kernel)) (fun _ _ _ _ _ => (pg_name (i := 8) sc_law.nd rfl (Or.inl rfl))) (fun _ _ _ _ _ => pts_nil) (fun _ _ _ _ _ => (pe_callD D_refused (hr.mono (by omega)) (by rfl) pass0 (pa_cons (pv 7) (pa_cons (pe_op op_sub pe_int pe_int) (pa_cons (pv 8) pa_nil)))))) pa_nil)))) (pss_one (ps_ret pe_bl)) pss_nil)))))))))))))))
      (pss_one (ps_ret (pe_and (pe_cmpR op_eq (glI (by rfl) T.mg_COMMON) pe_int (nomark _)) (pe_and (pe_cmpR (op_eqOwn M_eq (hr.mono (by omega)) pass0) (pe_mk1D D_Sizes1 (hr.mono (by omega)) (by rfl) passL (pa_cons pe_int pa_nil)) (pe_mkD D_Sizes (hr.mono (by omega)) (by rfl) passL (pa_cons pe_int pa_nil) (pk_cons (glI (by rfl) T.mg_COMMON) pk_nil)) (nomark _)) (pe_one (pe_cmpR op_eq (pe_methD0 T.cl M_total (hr.mono (by omega)) pass0 (pe_mk1D D_Sizes1 (hr.mono (by omega)) (by rfl) passL (pa_cons pe_int pa_nil))) pe_int (nomark _))))))))), ?_⟩
    refine ⟨_, rfl, _, _, rfl, hS, fun a H1 na D1 s1 => ?_⟩
    refine ⟨_, rfl, by decide, by decide, ?_⟩
    refine for_range (lo := 0) (n := Int.toNat 4) (fun i σ H' => DrawAt H' a ∧ ∃ x2 x3 x4 x5 x6 x7, σ = [some (.ref scr), some (.ref a), x2, x3, x4, x5, x6, x7, none]) ⟨D1, _, _, _, _, _, _, rfl⟩ ?_ ?_
    · rintro i σ H2 hi ⟨D2, x2, x3, x4, x5, x6, x7, rfl⟩
      -- how many
      refine ⟨_, rfl, _, _, rfl, D2, by decide, by decide, fun r1 H3 p1 q1 D3 e3 => ?_⟩
      refine ⟨_, _, rfl, rfl, _, rfl, _, _, rfl, rfl, ⟨by decide, by decide, by decide⟩, _, _, rfl, D3, by decide, by decide, fun r2 H4 p2 q2 D4 e4 => ?_⟩
      refine ⟨_, _, rfl, rfl, _, _, rfl, rfl, ⟨by decide, by decide, by decide⟩, _, _, rfl, rfl, ⟨by decide, by decide, by decide⟩, _, _, rfl, rfl, _, rfl, a, rfl, D4, fun fr H5 sfr ffr X5 => ?_⟩
      refine ⟨(by show 7 ≤ sizeLine; decide), fun t6 n6 => ?_⟩
      have q2' : r2 < 1000000 := q2
      have s6 := same_new n6 (.tup ([1 + r1, 1 + r2, 10 ^ Int.toNat 6, 1, 0, 10 ^ Int.toNat 6 + 1, fr].map V.int))
      refine ⟨_, rfl, _, rfl, _, _, rfl, X5.1.same s6, by decide, by decide, fun r7 H7 p7 q7 D7 e7 => ?_⟩
      obtain ⟨n, hn, en⟩ := ints_at (xs := [1 + r1, 1 + r2, 10 ^ Int.toNat 6, 1, 0, 10 ^ Int.toNat 6 + 1, fr]) p7 (by exact q7)
      have et7 : H7 t6 = some (.tup ([1 + r1, 1 + r2, 10 ^ Int.toNat 6, 1, 0, 10 ^ Int.toNat 6 + 1, fr].map V.int)) := (Ext.pick D7 e7).tup (X5.1.same s6) upd_same
      have sn : Sm n := by
        simp only [List.mem_cons, List.mem_nil_iff, or_false] at hn
        rw [show (10 : Int) ^ Int.toNat 6 = 1000000 from by decide] at hn
        rcases hn with rfl | rfl | rfl | rfl | rfl | rfl | rfl
        · exact Sm.of (by omega) (by omega)
        · exact Sm.of (by omega) (by omega)
        · exact Sm.of (by omega) (by omega)
        · exact Sm.of (by omega) (by omega)
        · exact Sm.of (by omega) (by omega)
        · exact Sm.of (by omega) (by omega)
        · exact sfr
      refine ⟨_, _, _, _, rfl, rfl, SqT.of et7, en, ?_⟩
      -- the common size
      refine ⟨_, rfl, _, _, rfl, D7, by decide, by decide, fun r8 H8 p8 q8 D8 e8 => ?_⟩
      refine ⟨_, _, rfl, rfl, _, rfl, a, rfl, D8, fun fr2 H9 sfr2 ffr2 X9 => ?_⟩
      refine ⟨(by show 6 ≤ sizeLine; decide), fun t10 n10 => ?_⟩
      have s10 := same_new n10 (.tup ([1 + r8, 60, 1, 0, 61, fr2].map V.int))
      refine ⟨_, rfl, _, _, rfl, X9.1.same s10, by decide, by decide, fun r11 H11 p11 q11 D11 e11 => ?_⟩
      obtain ⟨c, hc, ec⟩ := ints_at (xs := [1 + r8, 60, 1, 0, 61, fr2]) p11 (by exact q11)
      have et11 : H11 t10 = some (.tup ([1 + r8, 60, 1, 0, 61, fr2].map V.int)) := (Ext.pick D11 e11).tup (X9.1.same s10) upd_same
      have sc : Sm c := by
        simp only [List.mem_cons, List.mem_nil_iff, or_false] at hc
        rcases hc with rfl | rfl | rfl | rfl | rfl | rfl
        · exact Sm.of (by omega) (by omega)
        · exact Sm.of (by omega) (by omega)
        · exact Sm.of (by omega) (by omega)
        · exact Sm.of (by omega) (by omega)
        · exact Sm.of (by omega) (by omega)
        · exact sfr2
      refine ⟨_, _, _, _, rfl, rfl, SqT.of et11, ec, ?_⟩
      clear et7 et11 en ec hn hc sfr sfr2 ffr ffr2 X5 X9 s6 s10 D2 D3 D4 D7 D8 e3 e4 e7 e8 e11
      -- what is due
      refine ⟨(by show 3 ≤ sizeLine; decide), fun l12 n12 => ?_⟩
      have s12 := same_new n12 (.lst [.bl true, .bl false, .bl true])
      refine ⟨fun σ H' => Same H11 H' ∧ ∃ l, σ = [some (.ref scr), some (.ref a), some (.int (0 + (i : Int))), some (.ref t6), some (.int n), some (.int c), some (.ref l), x7, none] ∧ H' l = some (.lst [.bl (!decide (1 ≤ n ∧ n ≤ 1000000)), .bl (decide (1 ≤ n ∧ n ≤ 1000000)), .bl true]), ?_, ?_⟩
      · refine ⟨_, rfl, _, _, rfl, rfl, _, rfl, ?_⟩
        refine ite2 (fun g1 => ?_) (fun g1 => ?_)
        · have g1' : 1 ≤ n := of_decide_eq_true g1
          refine ⟨_, _, rfl, rfl, ⟨by decide, by decide, by decide⟩, _, _, rfl, rfl, _, rfl, ?_⟩
          refine ite2 (fun g2 => ?_) (fun g2 => ?_)
          · have g2' : n ≤ 1000000 := of_decide_eq_true g2
            refine ⟨(by show 3 ≤ sizeLine; decide), fun l13 n13 => ?_⟩
            refine ⟨s12.trans (same_new n13 _), l13, rfl, ?_⟩
            rw [upd_same, decide_eq_true ⟨g1', g2'⟩]
            rfl
          · have g2' : ¬ n ≤ 1000000 := fun q => g2 (decide_eq_true q)
            refine ⟨s12, l12, rfl, ?_⟩
            rw [upd_same, decide_eq_false (fun q => g2' q.2)]
            rfl
        · have g1' : ¬ 1 ≤ n := fun q => g1 (decide_eq_true q)
          refine ⟨_, rfl, ?_⟩
          refine ifF (by simp) ?_
          refine ⟨s12, l12, rfl, ?_⟩
          rw [upd_same, decide_eq_false (fun q => g1' q.1)]
          rfl
      rintro σ H13 ⟨s13, ld, rfl, eld⟩
      have D13 := D11.same s13
      refine ⟨_, rfl, _, rfl, n, c, rfl, sn, sc, fun good p d H14 s14 S14 => ?_, fun bad l2 H14 s14 e14 => ?_⟩
      · -- a row of sizes
        have eld14 := s14 _ _ eld
        have D14 := D13.same s14
        obtain ⟨⟨gn0, gn1⟩, gc0, gc1⟩ := good
        refine ⟨_, rfl, _, _, _, _, rfl, rfl, SqL.of eld14, atI_nat (j := 0) rfl, _, rfl, ?_⟩
        rw [decide_eq_true (show 1 ≤ n ∧ n ≤ 1000000 from ⟨gn0, gn1⟩)]
        refine ifF (by simp) ?_
        refine ⟨_, rfl, _, _, rfl, rfl, _, rfl, ?_⟩
        refine ifT (decide_eq_true gc0) ?_
        refine ⟨_, _, rfl, rfl, _, rfl, ?_⟩
        refine ifF (by simp [gc1]) ?_
        refine ⟨_, rfl, _, _, rfl, rfl, _, rfl, _, rfl, _, _, rfl, D14, by omega, by omega, fun r15 H15 p15 q15 D15 e15 => ?_⟩
        refine ⟨_, rfl, _, rfl, _, _, rfl, D15, by omega, by omega, fun r16 H16 p16 q16 D16 e16 => ?_⟩
        have X16 := (Ext.pick D15 e15).trans (Ext.pick D16 e16)
        have S16 : SzW C H16 p d ⟨n, c, []⟩ := by
          obtain ⟨dx, kvs, h1, h2, h3, W⟩ := S14
          cases h3
          obtain ⟨l0, ns0, i0, lf0, sd0, n0, dh, _⟩ := D14
          exact ⟨dx, [], X16.2 _ _ (ne_of h1 dh (by intro e; unfold drawO at e; cases e)) h1, X16.2 _ _ (ne_of h2 dh (by intro e; unfold drawO at e; cases e)) h2, .nil, W⟩
        refine ⟨(by show 4 ≤ sizeLine; decide), fun l17 n17 => ?_⟩
        have s17 := same_new n17 (.lst ([0, n - 1, r15, r16].map V.int))
        have S17 := S16.same s17
        have D17 := D16.same s17
        refine ⟨_, rfl, _, rfl, _, rfl, n, c, rfl, ⟨gn0, by omega⟩, ⟨gc0, gc1⟩, fun za zo zg H18 s18 Z18 _ _ _ => ?_⟩
        refine ⟨_, rfl, p, d, za, zo, zg, l17, ⟨n, c, []⟩, ⟨n, c, [], []⟩, [0, n - 1, r15, r16], rfl, S17.same s18, Z18, rel0 n c, s18 _ _ upd_same, (by show 4 ≤ 1000; decide), ?_, fun H19 s19 => ⟨_, rfl, ?_⟩⟩
        · intro m hm
          simp only [List.mem_cons, List.mem_nil_iff, or_false] at hm
          rcases hm with rfl | rfl | rfl | rfl <;> exact Sm.of (by omega) (by omega)
        refine ifF (by simp) ?_
        have S19 := (S17.same s18).same s19
        have D19 := (D17.same s18).same s19
        obtain ⟨dx, kvs, h19, _⟩ := id S19
        refine ⟨_, rfl, p, dx, _, rfl, h19, fz_no _ _ _, _, rfl, p, d, ⟨n, c, []⟩, n, rfl, S19, sn, fun _ H20 s20 => ?_, fun no => absurd ⟨by omega, Int.le_refl _⟩ no⟩
        rw [ah0]
        refine ⟨_, rfl, _, rfl, _, _, rfl, rfl, .inr ⟨by omega, by omega⟩, rfl, _, rfl, ?_⟩
        refine ifF (by simp) ?_
        have S20 := S19.same s20
        have D20 := D19.same s20
        have h20 := s20 _ _ h19
        have l1 := sn.len
        have l2 := sc.len
        refine ⟨_, rfl, p, dx, _, rfl, h20, p, d, ⟨n, c, []⟩, rfl, S20.r, ⟨_, rfl⟩, _, rfl, _, rfl, sn.log, _, _, rfl, rfl, ?_, _, _, rfl, rfl, ?_, _, rfl, _, rfl, sc.log, _, _, rfl, rfl, ?_, rfl, _, rfl, ?_⟩
        · exact small (by show 6 + _ ≤ 1000; omega)
        · exact small (by rw [PySem.Str.length_append]; show 6 + _ + 1 ≤ 1000; omega)
        · exact small (by rw [PySem.Str.length_append, PySem.Str.length_append]; show 6 + _ + 1 + _ ≤ 1000; omega)
        have er : reprM ⟨n, c, []⟩ = reprZ n c := (rel0 n c).repr
        rw [er]
        refine ifF (by show ¬ (!decide (V.str (reprZ n c) = V.str (reprZ n c))) = true; simp) ?_
        refine ⟨_, rfl, p, C, dx, _, _, rfl, h20, T.cl, T.n_common, fz_common _ _ _, _, rfl, rfl, _, rfl, ?_⟩
        refine ifF (by simp) ?_
        -- refusals behind the end
        refine ⟨_, rfl, by decide, by decide, fun D21 hD21 => ?_⟩
        refine lc_range (lo := 0) (n := Int.toNat 4) (fun j H22 => Same H20 H22 ∧ H22 D21 = some (.lst (List.replicate j (V.bl true)))) ⟨same_new hD21 _, upd_same⟩ ?_ ?_
        · rintro j H22 hj ⟨s22, e22⟩
          have hj' : j < 4 := hj
          refine ⟨rfl, ?_⟩
          unfold tYes
          refine ifT rfl ?_
          refine ⟨_, rfl, _, rfl, _, rfl, rfl, .inr ⟨_, rfl, ?_⟩⟩
          obtain ⟨m, em⟩ : ∃ m : Int, m = (if decide (V.int (0 + (j : Int)) = V.int 3) = true then 1 else 0) := ⟨_, rfl⟩
          rw [← em]
          have hm : ((j : Int) = 3 → m = 1) ∧ (¬ (j : Int) = 3 → m = 0) := by
            rw [em]
            by_cases z : (j : Int) = 3
            · simp [z]
            · simp [z]
          have hm1 : 0 ≤ m ∧ m ≤ 1 := by
            by_cases z : (j : Int) = 3
            · have := hm.1 z
              omega
            · have := hm.2 z
              omega
          refine ⟨_, _, rfl, rfl, _, rfl, p, d, ⟨n, c, []⟩, _, _, rfl, S20.same s22, Sm.of (by omega) (by omega), ⟨by omega, by omega⟩, fun z => ?_, fun z => ?_, fun H23 s23 => ?_⟩
          · have := hm.1 (by omega)
            show ¬ (0 ≤ n + m ∧ n + m ≤ n)
            omega
          · have := hm.2 (by omega)
            show ¬ (0 ≤ n + m ∧ n + m < n)
            omega
          · refine ⟨_, s23 _ _ e22, Nat.lt_of_le_of_lt (by rw [List.length_replicate]; omega) (show 4 < sizeLine by decide), ?_, ?_⟩
            · intro b' o q
              rw [upd_ne (ne_of_none q hD21)]
              exact s23 _ _ (s22 _ _ q)
            · rw [upd_same, rep_succ]
        rintro H22 ⟨s22, e22⟩
        refine ⟨_, List.replicate 4 true, rfl, SqL.of e22, _, rfl, ?_⟩
        refine ifF (by decide) ?_
        -- refusals ahead of the first one
        refine ⟨_, rfl, by decide, by decide, fun D24 hD24 => ?_⟩
        refine lc_range (lo := 0) (n := Int.toNat 4) (fun j H25 => Same H22 H25 ∧ H25 D24 = some (.lst (List.replicate j (V.bl true)))) ⟨same_new hD24 _, upd_same⟩ ?_ ?_
        · rintro j H25 hj ⟨s25, e25⟩
          have hj' : j < 4 := hj
          refine ⟨rfl, ?_⟩
          unfold tYes
          refine ifT rfl ?_
          refine ⟨_, rfl, _, _, rfl, rfl, _, rfl, p, d, ⟨n, c, []⟩, _, _, rfl, (S20.same s22).same s25, Sm.of (by decide) (by decide), ⟨by omega, by omega⟩, fun z => ?_, fun z => ?_, fun H26 s26 => ?_⟩
          · show ¬ (0 ≤ (0 : Int) - 1 ∧ _)
            omega
          · show ¬ (0 ≤ (0 : Int) - 1 ∧ _)
            omega
          · refine ⟨_, s26 _ _ e25, Nat.lt_of_le_of_lt (by rw [List.length_replicate]; omega) (show 4 < sizeLine by decide), ?_, ?_⟩
            · intro b' o q
              rw [upd_ne (ne_of_none q hD24)]
              exact s26 _ _ (s25 _ _ q)
            · rw [upd_same, rep_succ]
        rintro H25 ⟨s25, e25⟩
        refine ⟨_, List.replicate 4 true, rfl, SqL.of e25, _, rfl, ?_⟩
        refine ifF (by decide) ?_
        exact ⟨(D20.same s22).same s25, _, _, _, _, _, _, rfl⟩
      · -- a refusal
        have eld14 := s14 _ _ eld
        have D14 := D13.same s14
        have fin : ∀ H', Same H14 H' → tIfS (tNot (tB (tCall (spSame K 3) [] E0 (tCons (tVar 7) (tCons (tVar 6) tNil))))) (tRet (tC (.bl false))) tNext { nx := fun σ H' => DrawAt H' a ∧ ∃ x2 x3 x4 x5 x6 x7, σ = [some (.ref scr), some (.ref a), x2, x3, x4, x5, x6, x7, none], rt := Q, ct := fun σ H' => DrawAt H' a ∧ ∃ x2 x3 x4 x5 x6 x7, σ = [some (.ref scr), some (.ref a), x2, x3, x4, x5, x6, x7, none], bk := fun _ _ => True } [some (.ref scr), some (.ref a), some (.int (0 + (i : Int))), some (.ref t6), some (.int n), some (.int c), some (.ref ld), some (.ref l2), none] H' := fun H' s' => by
          refine ⟨_, rfl, _, rfl, _, _, .list [.bool (!decide (1 ≤ n ∧ n ≤ 1000000)), .bool (decide (1 ≤ n ∧ n ≤ 1000000)), .bool true], rfl, .lst (SqL.of (s' _ _ e14)) (.cons (.bl _) (.cons (.bl _) (.cons (.bl _) .nil))), .lst (SqL.of (s' _ _ eld14)) (.cons (.bl _) (.cons (.bl _) (.cons (.bl _) .nil))), by simp [PyData.depth, PyData.depthAll], by simp [mxl, mxlAll], fun H15 s15 => ⟨_, rfl, ?_⟩⟩
          refine ifF (by simp) ?_
          exact ⟨(D14.same s').same s15, _, _, _, _, _, _, rfl⟩
        refine ⟨_, rfl, _, _, _, _, rfl, rfl, SqL.of eld14, atI_nat (j := 0) rfl, _, rfl, ?_⟩
        by_cases g : 1 ≤ n ∧ n ≤ 1000000
        · rw [decide_eq_true g]
          refine ifF (by simp) ?_
          have nc : ¬ (1 ≤ c ∧ c ≤ 60) := fun q => bad ⟨g, q⟩
          refine ⟨_, rfl, _, _, rfl, rfl, _, rfl, ?_⟩
          refine ite2 (fun c1 => ?_) (fun c1 => ?_)
          · have c1' : 1 ≤ c := of_decide_eq_true c1
            refine ⟨_, _, rfl, rfl, _, rfl, ?_⟩
            rw [decide_eq_false (show ¬ c ≤ 60 by omega)]
            refine ifT rfl ?_
            exact fin H14 (Same.refl _)
          · refine ⟨_, rfl, ?_⟩
            refine ifT rfl ?_
            exact fin H14 (Same.refl _)
        · rw [decide_eq_false g]
          refine ifT rfl ?_
          refine ifT rfl ?_
          exact fin H14 (Same.refl _)
    rintro σ H2 ⟨D2, x2, x3, x4, x5, x6, x7, rfl⟩
    -- three rows more
    refine ⟨rfl, _, rfl, ?_⟩
    refine ifT (by simp) ?_
    refine fun x dx nx nd ne => ?_
    have s0 := new2 nx nd ne (.own x) (.ins C dx [])
    refine ⟨x, dx, 3, 1, rfl, upd_same, Sm.of (by decide) (by decide), Sm.of (by decide) (by decide), fun _ d H3 hd S3 fr => ⟨rfl, ?_⟩, fun no => absurd (by decide) no, fun _ no => absurd (by decide) no⟩
    refine ⟨rfl, rfl, fun y dy ny ndy ney => ?_⟩
    have s1' := new2 ny ndy ney (.own y) (.ins C dy [])
    refine ⟨y, dy, 3, 1, rfl, upd_same, Sm.of (by decide) (by decide), Sm.of (by decide) (by decide), fun _ d2 H4 hd2 S4 fr2 => ⟨rfl, ?_⟩, fun no => absurd (by decide) no, fun _ no => absurd (by decide) no⟩
    have s34 : Same H3 H4 := fun b o q => fr2 b o (s1' _ _ q) (ne_of_none q ny)
    have S34 := S3.same s34
    obtain ⟨dx1, kv1, hx1, _⟩ := id S34
    obtain ⟨dy1, kv2, hy1, _⟩ := id S4
    refine ⟨⟨x, y, dx1, dy1, _, _, rfl, rfl, hx1, hy1, d, d2, 3, 1, S34, S4⟩, fun H5 e5 => ⟨_, rfl, ?_⟩⟩
    refine ifT rfl ?_
    refine fun u du nu ndu neu => ?_
    refine ⟨u, du, 5, 1, rfl, upd_same, Sm.of (by decide) (by decide), Sm.of (by decide) (by decide), fun _ d3 H6 hd3 S6 fr3 => ⟨rfl, ?_⟩, fun no => absurd (by decide) no, fun _ no => absurd (by decide) no⟩
    obtain ⟨du1, kv3, hu1, _⟩ := id S6
    refine ⟨u, du1, _, rfl, hu1, fz_no _ _ _, u, d3, ⟨5, 1, []⟩, rfl, S6, fun H7 s7 => ⟨rfl, ?_⟩⟩
    rw [ah0]
    exact k H7
end
end K01

set_option Elab.async false
set_option linter.all false
set_option maxRecDepth 100000
set_option maxHeartbeats 4000000
namespace K01
open PySem L2 Gs
theorem all_mk {l : PySem.W.OpenLaw} {w : World} {K : PySem.W.Frag} {h : Heap} {mg : Str → Option Value} {fa : Addr} {C cN cM cS cG Dk : Addr} {tG tM tO tU : Tok} (X : K.In h) (G : h.Ns mainGlobals mg) (hfa : mg "law" = some (.ref fa))
    {f_check_size : Addr} {od_check_size an_check_size : Option Addr} {sl_check_size : Array (Option Value)} {oc_check_size dc_check_size pm_check_size cd_check_size ct_check_size kV_check_size : Value}
    (a_check_size : PySem.W.nsIn K mainGlobals "check_size" = some (some (.ref f_check_size)))
    (l_check_size : K.lookup f_check_size = some ⟨oc_check_size, od_check_size, .func (PySem.W.fnOf "check_size" "check_size" (defArgs s_check_size) (defBody s_check_size) (defScope s_check_size) .none kV_check_size dc_check_size pm_check_size an_check_size cd_check_size ct_check_size), sl_check_size⟩)
    (c_check_size : PySem.W.codeIn K cd_check_size "check_size" = true)
    (k_check_size : PySem.W.keepIn K (.ref f_check_size) = true)
    {f_check_number : Addr} {od_check_number an_check_number : Option Addr} {sl_check_number : Array (Option Value)} {oc_check_number dc_check_number pm_check_number cd_check_number ct_check_number kV_check_number : Value}
    (a_check_number : PySem.W.nsIn K mainGlobals "check_number" = some (some (.ref f_check_number)))
    (l_check_number : K.lookup f_check_number = some ⟨oc_check_number, od_check_number, .func (PySem.W.fnOf "check_number" "check_number" (defArgs s_check_number) (defBody s_check_number) (defScope s_check_number) .none kV_check_number dc_check_number pm_check_number an_check_number cd_check_number ct_check_number), sl_check_number⟩)
    (c_check_number : PySem.W.codeIn K cd_check_number "check_number" = true)
    (k_check_number : PySem.W.keepIn K (.ref f_check_number) = true)
    {f_begin : Addr} {od_begin an_begin : Option Addr} {sl_begin : Array (Option Value)} {oc_begin dc_begin pm_begin cd_begin ct_begin kV_begin : Value}
    (a_begin : PySem.W.nsIn K mainGlobals "_law_begin" = some (some (.ref f_begin)))
    (l_begin : K.lookup f_begin = some ⟨oc_begin, od_begin, .func (PySem.W.fnOf "_law_begin" "_law_begin" (defArgs s_begin) (defBody s_begin) (defScope s_begin) .none kV_begin dc_begin pm_begin an_begin cd_begin ct_begin), sl_begin⟩)
    (c_begin : PySem.W.codeIn K cd_begin "_law_begin" = true)
    (k_begin : PySem.W.keepIn K (.ref f_begin) = true)
    {f_pick : Addr} {od_pick an_pick : Option Addr} {sl_pick : Array (Option Value)} {oc_pick dc_pick pm_pick cd_pick ct_pick kV_pick : Value}
    (a_pick : PySem.W.nsIn K mainGlobals "_law_pick" = some (some (.ref f_pick)))
    (l_pick : K.lookup f_pick = some ⟨oc_pick, od_pick, .func (PySem.W.fnOf "_law_pick" "_law_pick" (defArgs s_pick) (defBody s_pick) (defScope s_pick) .none kV_pick dc_pick pm_pick an_pick cd_pick ct_pick), sl_pick⟩)
    (c_pick : PySem.W.codeIn K cd_pick "_law_pick" = true)
    (k_pick : PySem.W.keepIn K (.ref f_pick) = true)
    {f_far : Addr} {od_far an_far : Option Addr} {sl_far : Array (Option Value)} {oc_far dc_far pm_far cd_far ct_far kV_far : Value}
    (a_far : PySem.W.nsIn K mainGlobals "_law_far" = some (some (.ref f_far)))
    (l_far : K.lookup f_far = some ⟨oc_far, od_far, .func (PySem.W.fnOf "_law_far" "_law_far" (defArgs s_far) (defBody s_far) (defScope s_far) .none kV_far dc_far pm_far an_far cd_far ct_far), sl_far⟩)
    (c_far : PySem.W.codeIn K cd_far "_law_far" = true)
    (k_far : PySem.W.keepIn K (.ref f_far) = true)
    {f_same : Addr} {od_same an_same : Option Addr} {sl_same : Array (Option Value)} {oc_same dc_same pm_same cd_same ct_same kV_same : Value}
    (a_same : PySem.W.nsIn K mainGlobals "_law_same" = some (some (.ref f_same)))
    (l_same : K.lookup f_same = some ⟨oc_same, od_same, .func (PySem.W.fnOf "_law_same" "_law_same" (defArgs s_same) (defBody s_same) (defScope s_same) .none kV_same dc_same pm_same an_same cd_same ct_same), sl_same⟩)
    (c_same : PySem.W.codeIn K cd_same "_law_same" = true)
    (k_same : PySem.W.keepIn K (.ref f_same) = true)
    {f_z_odd : Addr} {od_z_odd an_z_odd : Option Addr} {sl_z_odd : Array (Option Value)} {oc_z_odd dc_z_odd pm_z_odd cd_z_odd ct_z_odd kV_z_odd : Value}
    (a_z_odd : PySem.W.nsIn K mainGlobals "_law_z_odd" = some (some (.ref f_z_odd)))
    (l_z_odd : K.lookup f_z_odd = some ⟨oc_z_odd, od_z_odd, .func (PySem.W.fnOf "_law_z_odd" "_law_z_odd" (defArgs s_z_odd) (defBody s_z_odd) (defScope s_z_odd) .none kV_z_odd dc_z_odd pm_z_odd an_z_odd cd_z_odd ct_z_odd), sl_z_odd⟩)
    (c_z_odd : PySem.W.codeIn K cd_z_odd "_law_z_odd" = true)
    (k_z_odd : PySem.W.keepIn K (.ref f_z_odd) = true)
    {f_z_size : Addr} {od_z_size an_z_size : Option Addr} {sl_z_size : Array (Option Value)} {oc_z_size dc_z_size pm_z_size cd_z_size ct_z_size kV_z_size : Value}
    (a_z_size : PySem.W.nsIn K mainGlobals "_law_z_size" = some (some (.ref f_z_size)))
    (l_z_size : K.lookup f_z_size = some ⟨oc_z_size, od_z_size, .func (PySem.W.fnOf "_law_z_size" "_law_z_size" (defArgs s_z_size) (defBody s_z_size) (defScope s_z_size) .none kV_z_size dc_z_size pm_z_size an_z_size cd_z_size ct_z_size), sl_z_size⟩)
    (c_z_size : PySem.W.codeIn K cd_z_size "_law_z_size" = true)
    (k_z_size : PySem.W.keepIn K (.ref f_z_size) = true)
    {f_z_ahead : Addr} {od_z_ahead an_z_ahead : Option Addr} {sl_z_ahead : Array (Option Value)} {oc_z_ahead dc_z_ahead pm_z_ahead cd_z_ahead ct_z_ahead kV_z_ahead : Value}
    (a_z_ahead : PySem.W.nsIn K mainGlobals "_law_z_ahead" = some (some (.ref f_z_ahead)))
    (l_z_ahead : K.lookup f_z_ahead = some ⟨oc_z_ahead, od_z_ahead, .func (PySem.W.fnOf "_law_z_ahead" "_law_z_ahead" (defArgs s_z_ahead) (defBody s_z_ahead) (defScope s_z_ahead) .none kV_z_ahead dc_z_ahead pm_z_ahead an_z_ahead cd_z_ahead ct_z_ahead), sl_z_ahead⟩)
    (c_z_ahead : PySem.W.codeIn K cd_z_ahead "_law_z_ahead" = true)
    (k_z_ahead : PySem.W.keepIn K (.ref f_z_ahead) = true)
    {f_z_stands : Addr} {od_z_stands an_z_stands : Option Addr} {sl_z_stands : Array (Option Value)} {oc_z_stands dc_z_stands pm_z_stands cd_z_stands ct_z_stands kV_z_stands : Value}
    (a_z_stands : PySem.W.nsIn K mainGlobals "_law_z_stands" = some (some (.ref f_z_stands)))
    (l_z_stands : K.lookup f_z_stands = some ⟨oc_z_stands, od_z_stands, .func (PySem.W.fnOf "_law_z_stands" "_law_z_stands" (defArgs s_z_stands) (defBody s_z_stands) (defScope s_z_stands) .none kV_z_stands dc_z_stands pm_z_stands an_z_stands cd_z_stands ct_z_stands), sl_z_stands⟩)
    (c_z_stands : PySem.W.codeIn K cd_z_stands "_law_z_stands" = true)
    (k_z_stands : PySem.W.keepIn K (.ref f_z_stands) = true)
    {f_z : Addr} {od_z an_z : Option Addr} {sl_z : Array (Option Value)} {oc_z dc_z pm_z cd_z ct_z kV_z : Value}
    (a_z : PySem.W.nsIn K mainGlobals "_law_z" = some (some (.ref f_z)))
    (l_z : K.lookup f_z = some ⟨oc_z, od_z, .func (PySem.W.fnOf "_law_z" "_law_z" (defArgs s_z) (defBody s_z) (defScope s_z) .none kV_z dc_z pm_z an_z cd_z ct_z), sl_z⟩)
    (c_z : PySem.W.codeIn K cd_z "_law_z" = true)
    (k_z : PySem.W.keepIn K (.ref f_z) = true)
    {f_made : Addr} {od_made an_made : Option Addr} {sl_made : Array (Option Value)} {oc_made dc_made pm_made cd_made ct_made kV_made : Value}
    (a_made : PySem.W.nsIn K mainGlobals "_law_made" = some (some (.ref f_made)))
    (l_made : K.lookup f_made = some ⟨oc_made, od_made, .func (PySem.W.fnOf "_law_made" "_law_made" (defArgs s_made) (defBody s_made) (defScope s_made) .none kV_made dc_made pm_made an_made cd_made ct_made), sl_made⟩)
    (c_made : PySem.W.codeIn K cd_made "_law_made" = true)
    (k_made : PySem.W.keepIn K (.ref f_made) = true)
    {f_refused : Addr} {od_refused an_refused : Option Addr} {sl_refused : Array (Option Value)} {oc_refused dc_refused pm_refused cd_refused ct_refused kV_refused : Value}
    (a_refused : PySem.W.nsIn K mainGlobals "_law_refused" = some (some (.ref f_refused)))
    (l_refused : K.lookup f_refused = some ⟨oc_refused, od_refused, .func (PySem.W.fnOf "_law_refused" "_law_refused" (defArgs s_refused) (defBody s_refused) (defScope s_refused) .none kV_refused dc_refused pm_refused an_refused cd_refused ct_refused), sl_refused⟩)
    (c_refused : PySem.W.codeIn K cd_refused "_law_refused" = true)
    (k_refused : PySem.W.keepIn K (.ref f_refused) = true)
    {f_law : Addr} {od_law an_law : Option Addr} {sl_law : Array (Option Value)} {oc_law dc_law pm_law cd_law ct_law kV_law : Value}
    (a_law : PySem.W.nsIn K mainGlobals "law" = some (some (.ref f_law)))
    (l_law : K.lookup f_law = some ⟨oc_law, od_law, .func (PySem.W.fnOf "law" "law" (defArgs s_law) (defBody s_law) (defScope s_law) .none kV_law dc_law pm_law an_law cd_law ct_law), sl_law⟩)
    (c_law : PySem.W.codeIn K cd_law "law" = true)
    (k_law : PySem.W.keepIn K (.ref f_law) = true)
    {f_init : Addr} {od_init an_init : Option Addr} {sl_init : Array (Option Value)} {oc_init dc_init pm_init cd_init ct_init : Value}
    (a_init : PySem.W.findIn K (.ref C) "__init__" = some (some (.ref f_init)))
    (i_init : PySem.W.isFn K (.ref f_init) = true)
    (l_init : K.lookup f_init = some ⟨oc_init, od_init, .func (PySem.W.fnOf "__init__" "Sizes.__init__" (defArgs s_Sizes_init) (defBody s_Sizes_init) (defScope s_Sizes_init) .none (.ref Dk) dc_init pm_init an_init cd_init ct_init), sl_init⟩)
    (c_init : PySem.W.codeIn K cd_init "Sizes.__init__" = true)
    (k_init : PySem.W.keepIn K (.ref f_init) = true)
    {f_eq : Addr} {od_eq an_eq : Option Addr} {sl_eq : Array (Option Value)} {oc_eq dc_eq pm_eq cd_eq ct_eq kV_eq : Value}
    (a_eq : PySem.W.findIn K (.ref C) "__eq__" = some (some (.ref f_eq)))
    (i_eq : PySem.W.isFn K (.ref f_eq) = true)
    (l_eq : K.lookup f_eq = some ⟨oc_eq, od_eq, .func (PySem.W.fnOf "__eq__" "Sizes.__eq__" (defArgs s_Sizes_eq) (defBody s_Sizes_eq) (defScope s_Sizes_eq) .none kV_eq dc_eq pm_eq an_eq cd_eq ct_eq), sl_eq⟩)
    (c_eq : PySem.W.codeIn K cd_eq "Sizes.__eq__" = true)
    (k_eq : PySem.W.keepIn K (.ref f_eq) = true)
    {f_repr : Addr} {od_repr an_repr : Option Addr} {sl_repr : Array (Option Value)} {oc_repr dc_repr pm_repr cd_repr ct_repr kV_repr : Value}
    (a_repr : PySem.W.findIn K (.ref C) "__repr__" = some (some (.ref f_repr)))
    (i_repr : PySem.W.isFn K (.ref f_repr) = true)
    (l_repr : K.lookup f_repr = some ⟨oc_repr, od_repr, .func (PySem.W.fnOf "__repr__" "Sizes.__repr__" (defArgs s_Sizes_repr) (defBody s_Sizes_repr) (defScope s_Sizes_repr) .none kV_repr dc_repr pm_repr an_repr cd_repr ct_repr), sl_repr⟩)
    (c_repr : PySem.W.codeIn K cd_repr "Sizes.__repr__" = true)
    (k_repr : PySem.W.keepIn K (.ref f_repr) = true)
    {f_state : Addr} {od_state an_state : Option Addr} {sl_state : Array (Option Value)} {oc_state dc_state pm_state cd_state ct_state kV_state : Value}
    (a_state : PySem.W.findIn K (.ref C) "state" = some (some (.ref f_state)))
    (i_state : PySem.W.isFn K (.ref f_state) = true)
    (l_state : K.lookup f_state = some ⟨oc_state, od_state, .func (PySem.W.fnOf "state" "Sizes.state" (defArgs s_Sizes_state) (defBody s_Sizes_state) (defScope s_Sizes_state) .none kV_state dc_state pm_state an_state cd_state ct_state), sl_state⟩)
    (c_state : PySem.W.codeIn K cd_state "Sizes.state" = true)
    (k_state : PySem.W.keepIn K (.ref f_state) = true)
    {f_size : Addr} {od_size an_size : Option Addr} {sl_size : Array (Option Value)} {oc_size dc_size pm_size cd_size ct_size kV_size : Value}
    (a_size : PySem.W.findIn K (.ref C) "size" = some (some (.ref f_size)))
    (i_size : PySem.W.isFn K (.ref f_size) = true)
    (l_size : K.lookup f_size = some ⟨oc_size, od_size, .func (PySem.W.fnOf "size" "Sizes.size" (defArgs s_Sizes_size) (defBody s_Sizes_size) (defScope s_Sizes_size) .none kV_size dc_size pm_size an_size cd_size ct_size), sl_size⟩)
    (c_size : PySem.W.codeIn K cd_size "Sizes.size" = true)
    (k_size : PySem.W.keepIn K (.ref f_size) = true)
    {f_own : Addr} {od_own an_own : Option Addr} {sl_own : Array (Option Value)} {oc_own dc_own pm_own cd_own ct_own kV_own : Value}
    (a_own : PySem.W.findIn K (.ref C) "own" = some (some (.ref f_own)))
    (i_own : PySem.W.isFn K (.ref f_own) = true)
    (l_own : K.lookup f_own = some ⟨oc_own, od_own, .func (PySem.W.fnOf "own" "Sizes.own" (defArgs s_Sizes_own) (defBody s_Sizes_own) (defScope s_Sizes_own) .none kV_own dc_own pm_own an_own cd_own ct_own), sl_own⟩)
    (c_own : PySem.W.codeIn K cd_own "Sizes.own" = true)
    (k_own : PySem.W.keepIn K (.ref f_own) = true)
    {f_hidden : Addr} {od_hidden an_hidden : Option Addr} {sl_hidden : Array (Option Value)} {oc_hidden dc_hidden pm_hidden cd_hidden ct_hidden kV_hidden : Value}
    (a_hidden : PySem.W.findIn K (.ref C) "hidden" = some (some (.ref f_hidden)))
    (i_hidden : PySem.W.isFn K (.ref f_hidden) = true)
    (l_hidden : K.lookup f_hidden = some ⟨oc_hidden, od_hidden, .func (PySem.W.fnOf "hidden" "Sizes.hidden" (defArgs s_Sizes_hidden) (defBody s_Sizes_hidden) (defScope s_Sizes_hidden) .none kV_hidden dc_hidden pm_hidden an_hidden cd_hidden ct_hidden), sl_hidden⟩)
    (c_hidden : PySem.W.codeIn K cd_hidden "Sizes.hidden" = true)
    (k_hidden : PySem.W.keepIn K (.ref f_hidden) = true)
    {f_ahead : Addr} {od_ahead an_ahead : Option Addr} {sl_ahead : Array (Option Value)} {oc_ahead dc_ahead pm_ahead cd_ahead ct_ahead kV_ahead : Value}
    (a_ahead : PySem.W.findIn K (.ref C) "ahead" = some (some (.ref f_ahead)))
    (i_ahead : PySem.W.isFn K (.ref f_ahead) = true)
    (l_ahead : K.lookup f_ahead = some ⟨oc_ahead, od_ahead, .func (PySem.W.fnOf "ahead" "Sizes.ahead" (defArgs s_Sizes_ahead) (defBody s_Sizes_ahead) (defScope s_Sizes_ahead) .none kV_ahead dc_ahead pm_ahead an_ahead cd_ahead ct_ahead), sl_ahead⟩)
    (c_ahead : PySem.W.codeIn K cd_ahead "Sizes.ahead" = true)
    (k_ahead : PySem.W.keepIn K (.ref f_ahead) = true)
    {f_total : Addr} {od_total an_total : Option Addr} {sl_total : Array (Option Value)} {oc_total dc_total pm_total cd_total ct_total kV_total : Value}
    (a_total : PySem.W.findIn K (.ref C) "total" = some (some (.ref f_total)))
    (i_total : PySem.W.isFn K (.ref f_total) = true)
    (l_total : K.lookup f_total = some ⟨oc_total, od_total, .func (PySem.W.fnOf "total" "Sizes.total" (defArgs s_Sizes_total) (defBody s_Sizes_total) (defScope s_Sizes_total) .none kV_total dc_total pm_total an_total cd_total ct_total), sl_total⟩)
    (c_total : PySem.W.codeIn K cd_total "Sizes.total" = true)
    (k_total : PySem.W.keepIn K (.ref f_total) = true)
    {f_exceptions : Addr} {od_exceptions an_exceptions : Option Addr} {sl_exceptions : Array (Option Value)} {oc_exceptions dc_exceptions pm_exceptions cd_exceptions ct_exceptions kV_exceptions : Value}
    (a_exceptions : PySem.W.findIn K (.ref C) "exceptions" = some (some (.ref f_exceptions)))
    (i_exceptions : PySem.W.isFn K (.ref f_exceptions) = true)
    (l_exceptions : K.lookup f_exceptions = some ⟨oc_exceptions, od_exceptions, .func (PySem.W.fnOf "exceptions" "Sizes.exceptions" (defArgs s_Sizes_exceptions) (defBody s_Sizes_exceptions) (defScope s_Sizes_exceptions) .none kV_exceptions dc_exceptions pm_exceptions an_exceptions cd_exceptions ct_exceptions), sl_exceptions⟩)
    (c_exceptions : PySem.W.codeIn K cd_exceptions "Sizes.exceptions" = true)
    (k_exceptions : PySem.W.keepIn K (.ref f_exceptions) = true)
    (z_max : PySem.W.nsIn K mainGlobals "max" = some none)
    (z_min : PySem.W.nsIn K mainGlobals "min" = some none)
    (z_len : PySem.W.nsIn K mainGlobals "len" = some none)
    (z_list : PySem.W.nsIn K mainGlobals "list" = some none)
    (z_isinstance : PySem.W.nsIn K mainGlobals "isinstance" = some none)
    (z_bool : PySem.W.nsIn K mainGlobals "bool" = some none)
    (z_int : PySem.W.nsIn K mainGlobals "int" = some none)
    (z_str : PySem.W.nsIn K mainGlobals "str" = some none)
    (z_tuple : PySem.W.nsIn K mainGlobals "tuple" = some none)
    (z_range : PySem.W.nsIn K mainGlobals "range" = some none)
    (z_all : PySem.W.nsIn K mainGlobals "all" = some none)
    (z_sum : PySem.W.nsIn K mainGlobals "sum" = some none)
    (z_sorted : PySem.W.nsIn K mainGlobals "sorted" = some none)
    (z_any : PySem.W.nsIn K mainGlobals "any" = some none)
    (z_dict : PySem.W.nsIn K mainGlobals "dict" = some none)
    (z_repr : PySem.W.nsIn K mainGlobals "repr" = some none)
    (z_ValueError : PySem.W.nsIn K mainGlobals "ValueError" = some none)
    (z_IndexError : PySem.W.nsIn K mainGlobals "IndexError" = some none)
    (g_GS : PySem.W.nsIn K mainGlobals "GREATEST_SIZE" = some (some (.int 60 tG)))
    (g_MT : PySem.W.nsIn K mainGlobals "MOST_THINGS" = some (some (.int 1000000 tM)))
    (g_CO : PySem.W.nsIn K mainGlobals "COMMON" = some (some (.int 1 tO)))
    (g_KD : PySem.W.nsIn K Dk "common" = some (some (.int 1 tU)))
    (p_Sizes : PySem.W.plainGet K C Str.empty = true)
    (hd_Sizes : PySem.W.hasDictIn K C = true)
    (po_Sizes : PySem.W.plainOver K C = true)
    (sa_Sizes : PySem.W.findIn K (.ref C) "__setattr__" = some (some (.builtin "object.__setattr__")))
    (n_Sizes_many : PySem.W.findIn K (.ref C) "many" = some none)
    (n_Sizes_common : PySem.W.findIn K (.ref C) "common" = some none)
    (n_Sizes_odd : PySem.W.findIn K (.ref C) "odd" = some none)
    (g_Sizes : PySem.W.nsIn K mainGlobals "Sizes" = some (some (.ref C)))
    (mk_Sizes : PySem.W.makesIn K C = true)
    (kc_Sizes : PySem.W.keepIn K (.ref C) = true)
    (ia_Sizes : PySem.W.findIn K (.ref C) "__class__" = some (some (.builtin "object.__class__")))
    (io : PySem.W.specialIn K (.builtin "object.__class__") "__get__" = some (some (.builtin "getset_descriptor.__get__")))
    (it : PySem.W.takesIn K (.builtin "object.__class__") = some true)
    (im_Sizes : PySem.W.mroIn K C (.type "object") = some true)
    (e_NoIndex : PySem.W.nsIn K mainGlobals "NoIndex" = some (some (.ref cN)))
    (ex_NoIndex : PySem.W.excIn K cN ieL "IndexError.__new__" = true)
    (ek_NoIndex : PySem.W.keepIn K (.ref cN) = true)
    (eb_NoIndex : PySem.W.subIn K (.ref cN) (.type "BaseException") = some true)
    (et_NoIndex : PySem.W.typeIn K (.ref cN) = some (.type "type"))
    (ec_NoIndex : PySem.W.isClsIn K cN = true)
    (es_NoIndex : PySem.W.subIn K (.ref cN) (.ref cN) = some true)
    (e_BadMany : PySem.W.nsIn K mainGlobals "BadMany" = some (some (.ref cM)))
    (ex_BadMany : PySem.W.excIn K cM veL "ValueError.__new__" = true)
    (ek_BadMany : PySem.W.keepIn K (.ref cM) = true)
    (eb_BadMany : PySem.W.subIn K (.ref cM) (.type "BaseException") = some true)
    (et_BadMany : PySem.W.typeIn K (.ref cM) = some (.type "type"))
    (ec_BadMany : PySem.W.isClsIn K cM = true)
    (es_BadMany : PySem.W.subIn K (.ref cM) (.ref cM) = some true)
    (e_BadSize : PySem.W.nsIn K mainGlobals "BadSize" = some (some (.ref cS)))
    (ex_BadSize : PySem.W.excIn K cS veL "ValueError.__new__" = true)
    (ek_BadSize : PySem.W.keepIn K (.ref cS) = true)
    (eb_BadSize : PySem.W.subIn K (.ref cS) (.type "BaseException") = some true)
    (et_BadSize : PySem.W.typeIn K (.ref cS) = some (.type "type"))
    (ec_BadSize : PySem.W.isClsIn K cS = true)
    (es_BadSize : PySem.W.subIn K (.ref cS) (.ref cS) = some true)
    (e_GridError : PySem.W.nsIn K mainGlobals "GridError" = some (some (.ref cG)))
    (ex_GridError : PySem.W.excIn K cG veL "ValueError.__new__" = true)
    (ek_GridError : PySem.W.keepIn K (.ref cG) = true)
    (eb_GridError : PySem.W.subIn K (.ref cG) (.type "BaseException") = some true)
    (et_GridError : PySem.W.typeIn K (.ref cG) = some (.type "type"))
    (ec_GridError : PySem.W.isClsIn K cG = true)
    (es_GridError : PySem.W.subIn K (.ref cG) (.ref cG) = some true)
    (xg_BadMany : PySem.W.findIn K (.ref cM) "__getattribute__" = some (some (.builtin "BaseException.__getattribute__")))
    (xk_BadMany : PySem.W.findIn K (.ref cM) "__getattr__" = some none)
    (xd_BadMany : PySem.W.hasDictIn K cM = true)
    (xc_BadMany : PySem.W.findIn K (.ref cM) "__class__" = some (some (.builtin "object.__class__")))
    (xm_BadMany : PySem.W.mroIn K cM (.type "object") = some true)
    (xg_BadSize : PySem.W.findIn K (.ref cS) "__getattribute__" = some (some (.builtin "BaseException.__getattribute__")))
    (xk_BadSize : PySem.W.findIn K (.ref cS) "__getattr__" = some none)
    (xd_BadSize : PySem.W.hasDictIn K cS = true)
    (xc_BadSize : PySem.W.findIn K (.ref cS) "__class__" = some (some (.builtin "object.__class__")))
    (xm_BadSize : PySem.W.mroIn K cS (.type "object") = some true)
    (xg_NoIndex : PySem.W.findIn K (.ref cN) "__getattribute__" = some (some (.builtin "BaseException.__getattribute__")))
    (xk_NoIndex : PySem.W.findIn K (.ref cN) "__getattr__" = some none)
    (xd_NoIndex : PySem.W.hasDictIn K cN = true)
    (xc_NoIndex : PySem.W.findIn K (.ref cN) "__class__" = some (some (.builtin "object.__class__")))
    (xm_NoIndex : PySem.W.mroIn K cN (.type "object") = some true)
    (u1 : PySem.W.subIn K (.ref cM) (.ref cG) = some true)
    (u2 : PySem.W.subIn K (.ref cS) (.ref cG) = some true)
    (u3 : PySem.W.subIn K (.ref cM) (.ref cS) = some false)
    (u4 : PySem.W.subIn K (.ref cS) (.ref cM) = some false)
    (u5 : PySem.W.subIn K (.ref cM) (.type "ValueError") = some true)
    (u6 : PySem.W.subIn K (.ref cS) (.type "ValueError") = some true)
    (u7 : PySem.W.subIn K (.ref cN) (.type "IndexError") = some true)
    : ∃ fd : FuncData, (∀ (s : Shared) (v : Value), BindsTo s fd ⟨[v], []⟩ [("_law_script", v)]) ∧ ∀ base : Heap, K.In base → base.Ns mainGlobals mg → FnOk l.prog w K mg base CX0 7 fa fd ["_law_script"] (spLaw K) := by
  have e := hfa.symm.trans (PySem.W.mg_of X G a_law)
  cases e
  have T : Tx K mg C cN cN cM cS cN tG tM tO tU := ⟨PySem.W.mg_none_of X G z_max, PySem.W.mg_none_of X G z_min, PySem.W.mg_none_of X G z_len, PySem.W.mg_none_of X G z_list, PySem.W.mg_none_of X G z_isinstance, PySem.W.mg_none_of X G z_bool, PySem.W.mg_none_of X G z_int, PySem.W.mg_none_of X G z_str, PySem.W.mg_none_of X G z_tuple, PySem.W.mg_none_of X G z_range, PySem.W.mg_none_of X G z_all, PySem.W.mg_none_of X G z_sum, PySem.W.mg_none_of X G z_sorted, PySem.W.mg_none_of X G z_any, PySem.W.mg_none_of X G z_dict, PySem.W.mg_none_of X G z_repr, PySem.W.mg_of X G g_GS, PySem.W.mg_of X G g_MT, ⟨p_Sizes, hd_Sizes, po_Sizes, sa_Sizes⟩, n_Sizes_many, n_Sizes_common, n_Sizes_odd, PySem.W.mg_of X G g_Sizes, ⟨⟨p_Sizes, hd_Sizes, po_Sizes, sa_Sizes⟩, ia_Sizes, io, it, im_Sizes, kit_same⟩, ⟨PySem.W.mg_of X G e_NoIndex, ex_NoIndex, ek_NoIndex, eb_NoIndex, et_NoIndex, ec_NoIndex, es_NoIndex⟩, ⟨PySem.W.mg_of X G e_BadMany, ex_BadMany, ek_BadMany, eb_BadMany, et_BadMany, ec_BadMany, es_BadMany⟩, ⟨PySem.W.mg_of X G e_BadSize, ex_BadSize, ek_BadSize, eb_BadSize, et_BadSize, ec_BadSize, es_BadSize⟩, PySem.W.mg_of X G g_CO⟩
  have F_check_size := fun_mk (st := s_check_size) l_check_size c_check_size k_check_size
  have b_check_size := F_check_size.binds (ps := ["size"]) fun _ _ _ _ _ _ us hl => match us, hl with | [_], _ => rfl
  have m_check_size := PySem.W.mg_of X G a_check_size
  have F_check_number := fun_mk (st := s_check_number) l_check_number c_check_number k_check_number
  have b_check_number := F_check_number.binds (ps := ["number", "count"]) fun _ _ _ _ _ _ us hl => match us, hl with | [_, _], _ => rfl
  have m_check_number := PySem.W.mg_of X G a_check_number
  have F_begin := fun_mk (st := s_begin) l_begin c_begin k_begin
  have b_begin := F_begin.binds (ps := ["_law_script"]) fun _ _ _ _ _ _ us hl => match us, hl with | [_], _ => rfl
  have m_begin := PySem.W.mg_of X G a_begin
  have F_pick := fun_mk (st := s_pick) l_pick c_pick k_pick
  have b_pick := F_pick.binds (ps := ["_law_draw", "_law_many"]) fun _ _ _ _ _ _ us hl => match us, hl with | [_, _], _ => rfl
  have m_pick := PySem.W.mg_of X G a_pick
  have F_far := fun_mk (st := s_far) l_far c_far k_far
  have b_far := F_far.binds (ps := ["_law_draw"]) fun _ _ _ _ _ _ us hl => match us, hl with | [_], _ => rfl
  have m_far := PySem.W.mg_of X G a_far
  have F_same := fun_mk (st := s_same) l_same c_same k_same
  have b_same := F_same.binds (ps := ["_law_found", "_law_due"]) fun _ _ _ _ _ _ us hl => match us, hl with | [_, _], _ => rfl
  have m_same := PySem.W.mg_of X G a_same
  have F_z_odd := fun_mk (st := s_z_odd) l_z_odd c_z_odd k_z_odd
  have b_z_odd := F_z_odd.binds (ps := ["_law_z_here"]) fun _ _ _ _ _ _ us hl => match us, hl with | [_], _ => rfl
  have m_z_odd := PySem.W.mg_of X G a_z_odd
  have F_z_size := fun_mk (st := s_z_size) l_z_size c_z_size k_z_size
  have b_z_size := F_z_size.binds (ps := ["_law_z_here", "_law_k"]) fun _ _ _ _ _ _ us hl => match us, hl with | [_, _], _ => rfl
  have m_z_size := PySem.W.mg_of X G a_z_size
  have F_z_ahead := fun_mk (st := s_z_ahead) l_z_ahead c_z_ahead k_z_ahead
  have b_z_ahead := F_z_ahead.binds (ps := ["_law_z_here", "_law_k"]) fun _ _ _ _ _ _ us hl => match us, hl with | [_, _], _ => rfl
  have m_z_ahead := PySem.W.mg_of X G a_z_ahead
  have F_z_stands := fun_mk (st := s_z_stands) l_z_stands c_z_stands k_z_stands
  have b_z_stands := F_z_stands.binds (ps := ["_law_sizes", "_law_z_here", "_law_some"]) fun _ _ _ _ _ _ us hl => match us, hl with | [_, _, _], _ => rfl
  have m_z_stands := PySem.W.mg_of X G a_z_stands
  have F_z := fun_mk (st := s_z) l_z c_z k_z
  have b_z := F_z.binds (ps := ["_law_many", "_law_usual"]) fun _ _ _ _ _ _ us hl => match us, hl with | [_, _], _ => rfl
  have m_z := PySem.W.mg_of X G a_z
  have F_made := fun_mk (st := s_made) l_made c_made k_made
  have b_made := F_made.binds (ps := ["_law_many", "_law_usual"]) fun _ _ _ _ _ _ us hl => match us, hl with | [_, _], _ => rfl
  have m_made := PySem.W.mg_of X G a_made
  have F_refused := fun_mk (st := s_refused) l_refused c_refused k_refused
  have b_refused := F_refused.binds (ps := ["_law_sizes", "_law_number", "_law_way"]) fun _ _ _ _ _ _ us hl => match us, hl with | [_, _, _], _ => rfl
  have m_refused := PySem.W.mg_of X G a_refused
  have F_law := fun_mk (st := s_law) l_law c_law k_law
  have F_init := fun_mk (st := s_Sizes_init) l_init c_init k_init
  have F_eq := fun_mk (st := s_Sizes_eq) l_eq c_eq k_eq
  have b_eq := F_eq.binds (ps := ["self", "other"]) fun _ _ _ _ _ _ us hl => match us, hl with | [_, _], _ => rfl
  have me_eq : Meth K C "__eq__" f_eq := ⟨a_eq, i_eq, k_eq⟩
  have F_repr := fun_mk (st := s_Sizes_repr) l_repr c_repr k_repr
  have b_repr := F_repr.binds (ps := ["self"]) fun _ _ _ _ _ _ us hl => match us, hl with | [_], _ => rfl
  have me_repr : Meth K C "__repr__" f_repr := ⟨a_repr, i_repr, k_repr⟩
  have F_state := fun_mk (st := s_Sizes_state) l_state c_state k_state
  have b_state := F_state.binds (ps := ["self", "number"]) fun _ _ _ _ _ _ us hl => match us, hl with | [_, _], _ => rfl
  have me_state : Meth K C "state" f_state := ⟨a_state, i_state, k_state⟩
  have F_size := fun_mk (st := s_Sizes_size) l_size c_size k_size
  have b_size := F_size.binds (ps := ["self", "number"]) fun _ _ _ _ _ _ us hl => match us, hl with | [_, _], _ => rfl
  have me_size : Meth K C "size" f_size := ⟨a_size, i_size, k_size⟩
  have F_own := fun_mk (st := s_Sizes_own) l_own c_own k_own
  have b_own := F_own.binds (ps := ["self", "number"]) fun _ _ _ _ _ _ us hl => match us, hl with | [_, _], _ => rfl
  have me_own : Meth K C "own" f_own := ⟨a_own, i_own, k_own⟩
  have F_hidden := fun_mk (st := s_Sizes_hidden) l_hidden c_hidden k_hidden
  have b_hidden := F_hidden.binds (ps := ["self", "number"]) fun _ _ _ _ _ _ us hl => match us, hl with | [_, _], _ => rfl
  have me_hidden : Meth K C "hidden" f_hidden := ⟨a_hidden, i_hidden, k_hidden⟩
  have F_ahead := fun_mk (st := s_Sizes_ahead) l_ahead c_ahead k_ahead
  have b_ahead := F_ahead.binds (ps := ["self", "number"]) fun _ _ _ _ _ _ us hl => match us, hl with | [_, _], _ => rfl
  have me_ahead : Meth K C "ahead" f_ahead := ⟨a_ahead, i_ahead, k_ahead⟩
  have F_total := fun_mk (st := s_Sizes_total) l_total c_total k_total
  have b_total := F_total.binds (ps := ["self"]) fun _ _ _ _ _ _ us hl => match us, hl with | [_], _ => rfl
  have me_total : Meth K C "total" f_total := ⟨a_total, i_total, k_total⟩
  have F_exceptions := fun_mk (st := s_Sizes_exceptions) l_exceptions c_exceptions k_exceptions
  have b_exceptions := F_exceptions.binds (ps := ["self"]) fun _ _ _ _ _ _ us hl => match us, hl with | [_], _ => rfl
  have me_exceptions : Meth K C "exceptions" f_exceptions := ⟨a_exceptions, i_exceptions, k_exceptions⟩
  refine ⟨PySem.W.fnOf "law" "law" (defArgs s_law) (defBody s_law) (defScope s_law) .none kV_law dc_law pm_law an_law cd_law ct_law, fun s v => .of_eq rfl, fun base _ _ => ?_⟩
  have T2 : Tx2 K mg cN cM cS cG := ⟨⟨PySem.W.mg_of X G e_GridError, ex_GridError, ek_GridError, eb_GridError, et_GridError, ec_GridError, es_GridError⟩, PySem.W.mg_none_of X G z_ValueError, PySem.W.mg_none_of X G z_IndexError, u1, u2, u3, u4, u5, u6, u7, ⟨xg_BadMany, xk_BadMany, eb_BadMany, xd_BadMany, xc_BadMany, io, it, xm_BadMany⟩, ⟨xg_BadSize, xk_BadSize, eb_BadSize, xd_BadSize, xc_BadSize, io, it, xm_BadSize⟩, ⟨xg_NoIndex, xk_NoIndex, eb_NoIndex, xd_NoIndex, xc_NoIndex, io, it, xm_NoIndex⟩⟩
  have D_begin : Dn l.prog w K mg base CX0 1 "_law_begin" ["_law_script"] (spBegin K) := ⟨_, _, ok_begin F_begin T, m_begin, k_begin, b_begin⟩
  have D_pick : Dn l.prog w K mg base CX0 1 "_law_pick" ["_law_draw", "_law_many"] spPick := ⟨_, _, ok_pick F_pick T, m_pick, k_pick, b_pick⟩
  have D_far : Dn l.prog w K mg base CX0 2 "_law_far" ["_law_draw"] spFar := ⟨_, _, ok_far F_far T D_pick, m_far, k_far, b_far⟩
  have D_check_size : Dn l.prog w K mg base (L2.CX l.prog w) 1 "check_size" ["size"] (spCS cS) := ⟨_, _, ok_cs F_check_size T, m_check_size, k_check_size, b_check_size⟩
  have D_check_number : Dn l.prog w K mg base (L2.CX l.prog w) 1 "check_number" ["number", "count"] (spNum cN) := ⟨_, _, ok_cn F_check_number T, m_check_number, k_check_number, b_check_number⟩
  have M_state : Mn l.prog w K mg base (L2.CX l.prog w) 2 C "state" ["self", "number"] (spState C cN) := ⟨_, _, ok_state F_state T D_check_number, me_state, b_state⟩
  have M_size : Mn l.prog w K mg base (L2.CX l.prog w) 3 C "size" ["self", "number"] (spSize C cN) := ⟨_, _, ok_size F_size T M_state, me_size, b_size⟩
  have M_own : Mn l.prog w K mg base (L2.CX l.prog w) 3 C "own" ["self", "number"] (spOwn C cN) := ⟨_, _, ok_own F_own T M_state, me_own, b_own⟩
  have M_hidden : Mn l.prog w K mg base (L2.CX l.prog w) 3 C "hidden" ["self", "number"] (spHid C cN) := ⟨_, _, ok_hidden F_hidden T M_state, me_hidden, b_hidden⟩
  have M_ahead : Mn l.prog w K mg base (L2.CX l.prog w) 4 C "ahead" ["self", "number"] (spAhead C cN) := ⟨_, _, ok_ahead F_ahead T D_check_number M_size, me_ahead, b_ahead⟩
  have M_total : Mn l.prog w K mg base CX0 5 C "total" ["self"] (spTotal C) := ⟨_, _, ok_total F_total T M_ahead, me_total, b_total⟩
  have M_exceptions : Mn l.prog w K mg base CX0 4 C "exceptions" ["self"] (spExc K C) := ⟨_, _, ok_exceptions F_exceptions T M_own M_hidden, me_exceptions, b_exceptions⟩
  have M_repr : Mn l.prog w K mg base CX0 1 C "__repr__" ["self"] (spRepr C) := ⟨_, _, ok_repr F_repr T, me_repr, b_repr⟩
  have M_eq : Mn l.prog w K mg base CX0 1 C "__eq__" ["self", "other"] (spEq (EqR0 C)) := ⟨_, _, ok_eq F_eq T, me_eq, b_eq⟩
  have D_z_odd : Dn l.prog w K mg base CX0 1 "_law_z_odd" ["_law_z_here"] spZodd := ⟨_, _, ok_z_odd F_z_odd T, m_z_odd, k_z_odd, b_z_odd⟩
  have D_z_size : Dn l.prog w K mg base CX0 1 "_law_z_size" ["_law_z_here", "_law_k"] spZsize := ⟨_, _, ok_z_size F_z_size T, m_z_size, k_z_size, b_z_size⟩
  have D_z_ahead : Dn l.prog w K mg base CX0 2 "_law_z_ahead" ["_law_z_here", "_law_k"] spZahead := ⟨_, _, ok_z_ahead F_z_ahead T D_z_odd D_z_size, m_z_ahead, k_z_ahead, b_z_ahead⟩
  have D_same := same_all (P := l.prog) (w := w) (base := base) F_same T b_same m_same k_same
  have D_z_stands : Dn l.prog w K mg base CX0 6 "_law_z_stands" ["_law_sizes", "_law_z_here", "_law_some"] (spZst K C) := ⟨_, _, ok_z_stands F_z_stands T D_z_odd D_z_size D_z_ahead (D_same 4) M_size M_own M_hidden M_ahead M_total M_exceptions M_repr, m_z_stands, k_z_stands, b_z_stands⟩
  have D_z : Dn l.prog w K mg base CX0 1 "_law_z" ["_law_many", "_law_usual"] spZnew := ⟨_, _, ok_z F_z T, m_z, k_z, b_z⟩
  have okI := ok_init (P := l.prog) (w := w) (base := base) F_init T D_check_size
  have mkI : Mk K C f_init := ⟨mk_Sizes, a_init, i_init, kc_Sizes⟩
  have D_Sizes : Cn l.prog w K mg base (L2.CX l.prog w) 2 C "Sizes" (spInit C cM cS) := ⟨_, _, okI, mkI, T.mgC, ⟨fun s us ws _ l1 l2 => .of_eq (match us, ws, l1, l2 with | [_, _], [_], _, _ => rfl), fun r1 r2 => Vals.append r1 r2⟩⟩
  have FD : FunD K "__init__" "Sizes.__init__" (defArgs s_Sizes_init) (defBody s_Sizes_init) (defScope s_Sizes_init) [] [("common", .int 1)] f_init _ := ⟨⟨_, _, _, _, _, _, _, _, _, _, rfl, l_init, c_init, .inl ⟨rfl, rfl⟩, .inr ⟨Dk, rfl, fun q hq => by rw [List.mem_singleton] at hq; subst hq; exact ⟨_, g_KD, _, rfl⟩⟩⟩, k_init⟩
  obtain ⟨ds, vds, bds⟩ := FD.binds0 (ps := ["self", "many", "common"]) 2 (by simp) rfl (fun D doc pm an cdv ct us ks l1 l2 => match us, ks, l1, l2 with | [_, _], [_], _, _ => ⟨_, _, _, _, _, _, rfl, rfl, rfl⟩)
  have D_Sizes1 : Cn1 l.prog w K mg base (L2.CX l.prog w) 2 C "Sizes" (spInit C cM cS) := ⟨_, _, ds, okI, mkI, T.mgC, vds, bds⟩
  have D_made : Dn l.prog w K mg base CX0 4 "_law_made" ["_law_many", "_law_usual"] (spMade C) := ⟨_, _, ok_made F_made T D_Sizes T2, m_made, k_made, b_made⟩
  have D_refused : Dn l.prog w K mg base CX0 5 "_law_refused" ["_law_sizes", "_law_number", "_law_way"] (spRef C) := ⟨_, _, ok_refused F_refused T T2 M_size M_own M_hidden M_ahead, m_refused, k_refused, b_refused⟩
  exact ok_law F_law T D_begin D_pick D_far (D_same 3) D_made D_refused D_z D_z_stands D_Sizes D_Sizes1 M_ahead M_total M_repr M_eq
theorem walk {l : PySem.W.OpenLaw} {q : Program} {loose : List Str} {XP : (Str → Option Value) → Heap → Prop} {YP : World → Heap → Prop} {d : DefRec} {K : Params → PySem.W.Frag} (hn : l.most = some 63) (hdf : d.params.defaults = [])
    (hY : ∀ (w : World) (h : Heap), YP w h → (K w.params).In h)
    (F : ∀ (w : World) (mg : Str → Option Value) (fa : Addr) (h : Heap), (K w.params).In h → h.Ns mainGlobals mg → mg d.name = some (.ref fa) →
      ∃ fd : FuncData, (∀ (s : Shared) (u : Value), BindsTo s fd ⟨[u], []⟩ [("_law_script", u)]) ∧ ∀ base : Heap, (K w.params).In base → base.Ns mainGlobals mg → FnOk l.prog w (K w.params) mg base CX0 7 fa fd ["_law_script"] (spLaw (K w.params))) :
    PySem.W.WalkO q loose XP YP l.row.toRowW d [] (fun f vs => PySem.call f vs) :=
  L2.walk_of (n := 63) (k := 7) (x := "_law_script") (CX := fun _ => CX0) (sp := fun w => spLaw (K w.params)) hn (by decide) hdf ⟨rfl, by decide, by decide⟩ hY F (fun _ _ a ns hl _ hS => ⟨a, ns, rfl, hS, hl, fun _ => rfl⟩) fun _ _ _ _ _ z => z
end K01
open PySem PySem.W PyProof.Rows
set_option maxRecDepth 100000 in
set_option maxHeartbeats 0 in
theorem PySem.Challenge.cw_gridscope_k01_rows_of_sizes_begun_holds : PySem.Challenge.rw_gridscope_k01_rows_of_sizes_begun.Holds := by
  w_on; o_law; k_head; (case hw => w_witness2)
  k_fill
  refine K01.walk (l := PySem.Challenge.rw_gridscope_k01_rows_of_sizes_begun) rfl rfl (fun w h Y => PySem.W.kIn_of Y) ?F
  case F =>
    intro w mg fa h KX G hmg
    refine' K01.all_mk KX G hmg ?a_check_size ?l_check_size ?c_check_size ?k_check_size ?a_check_number ?l_check_number ?c_check_number ?k_check_number ?a_begin ?l_begin ?c_begin ?k_begin ?a_pick ?l_pick ?c_pick ?k_pick ?a_far ?l_far ?c_far ?k_far ?a_same ?l_same ?c_same ?k_same ?a_z_odd ?l_z_odd ?c_z_odd ?k_z_odd ?a_z_size ?l_z_size ?c_z_size ?k_z_size ?a_z_ahead ?l_z_ahead ?c_z_ahead ?k_z_ahead ?a_z_stands ?l_z_stands ?c_z_stands ?k_z_stands ?a_z ?l_z ?c_z ?k_z ?a_made ?l_made ?c_made ?k_made ?a_refused ?l_refused ?c_refused ?k_refused ?a_law ?l_law ?c_law ?k_law ?a_init ?i_init ?l_init ?c_init ?k_init ?a_eq ?i_eq ?l_eq ?c_eq ?k_eq ?a_repr ?i_repr ?l_repr ?c_repr ?k_repr ?a_state ?i_state ?l_state ?c_state ?k_state ?a_size ?i_size ?l_size ?c_size ?k_size ?a_own ?i_own ?l_own ?c_own ?k_own ?a_hidden ?i_hidden ?l_hidden ?c_hidden ?k_hidden ?a_ahead ?i_ahead ?l_ahead ?c_ahead ?k_ahead ?a_total ?i_total ?l_total ?c_total ?k_total ?a_exceptions ?i_exceptions ?l_exceptions ?c_exceptions ?k_exceptions ?z_max ?z_min ?z_len ?z_list ?z_isinstance ?z_bool ?z_int ?z_str ?z_tuple ?z_range ?z_all ?z_sum ?z_sorted ?z_any ?z_dict ?z_repr ?z_ValueError ?z_IndexError ?g_GS ?g_MT ?g_CO ?g_KD ?p_Sizes ?hd_Sizes ?po_Sizes ?sa_Sizes ?n_Sizes_many ?n_Sizes_common ?n_Sizes_odd ?g_Sizes ?mk_Sizes ?kc_Sizes ?ia_Sizes ?io ?it ?im_Sizes ?e_NoIndex ?ex_NoIndex ?ek_NoIndex ?eb_NoIndex ?et_NoIndex ?ec_NoIndex ?es_NoIndex ?e_BadMany ?ex_BadMany ?ek_BadMany ?eb_BadMany ?et_BadMany ?ec_BadMany ?es_BadMany ?e_BadSize ?ex_BadSize ?ek_BadSize ?eb_BadSize ?et_BadSize ?ec_BadSize ?es_BadSize ?e_GridError ?ex_GridError ?ek_GridError ?eb_GridError ?et_GridError ?ec_GridError ?es_GridError ?xg_BadMany ?xk_BadMany ?xd_BadMany ?xc_BadMany ?xm_BadMany ?xg_BadSize ?xk_BadSize ?xd_BadSize ?xc_BadSize ?xm_BadSize ?xg_NoIndex ?xk_NoIndex ?xd_NoIndex ?xc_NoIndex ?xm_NoIndex ?u1 ?u2 ?u3 ?u4 ?u5 ?u6 ?u7
    (case a_check_size => k_is); (case a_check_number => k_is); (case a_begin => k_is); (case a_pick => k_is); (case a_far => k_is); (case a_same => k_is)
    (case a_z_odd => k_is); (case a_z_size => k_is); (case a_z_ahead => k_is); (case a_z_stands => k_is); (case a_z => k_is); (case a_made => k_is)
    (case a_refused => k_is); (case a_law => k_is); (case z_max => k_is); (case z_min => k_is); (case z_len => k_is); (case z_list => k_is)
    (case z_isinstance => k_is); (case z_bool => k_is); (case z_int => k_is); (case z_str => k_is); (case z_tuple => k_is); (case z_range => k_is)
    (case z_all => k_is); (case z_sum => k_is); (case z_sorted => k_is); (case z_any => k_is); (case z_dict => k_is); (case z_repr => k_is)
    (case z_ValueError => k_is); (case z_IndexError => k_is); (case g_GS => k_is); (case g_MT => k_is); (case g_CO => k_is); (case g_Sizes => k_is)
    (case e_NoIndex => k_is); (case e_BadMany => k_is); (case e_BadSize => k_is); (case e_GridError => k_is); (case l_check_size => k_is); (case c_check_size => k_is)
    (case k_check_size => k_is); (case l_check_number => k_is); (case c_check_number => k_is); (case k_check_number => k_is); (case l_begin => k_is); (case c_begin => k_is)
    (case k_begin => k_is); (case l_pick => k_is); (case c_pick => k_is); (case k_pick => k_is); (case l_far => k_is); (case c_far => k_is)
    (case k_far => k_is); (case l_same => k_is); (case c_same => k_is); (case k_same => k_is); (case l_z_odd => k_is); (case c_z_odd => k_is)
    (case k_z_odd => k_is); (case l_z_size => k_is); (case c_z_size => k_is); (case k_z_size => k_is); (case l_z_ahead => k_is); (case c_z_ahead => k_is)
    (case k_z_ahead => k_is); (case l_z_stands => k_is); (case c_z_stands => k_is); (case k_z_stands => k_is); (case l_z => k_is); (case c_z => k_is)
    (case k_z => k_is); (case l_made => k_is); (case c_made => k_is); (case k_made => k_is); (case l_refused => k_is); (case c_refused => k_is)
    (case k_refused => k_is); (case l_law => k_is); (case c_law => k_is); (case k_law => k_is); (case a_init => k_is); (case i_init => k_is)
    (case l_init => k_is); (case c_init => k_is); (case k_init => k_is); (case a_eq => k_is); (case i_eq => k_is); (case l_eq => k_is)
    (case c_eq => k_is); (case k_eq => k_is); (case a_repr => k_is); (case i_repr => k_is); (case l_repr => k_is); (case c_repr => k_is)
    (case k_repr => k_is); (case a_state => k_is); (case i_state => k_is); (case l_state => k_is); (case c_state => k_is); (case k_state => k_is)
    (case a_size => k_is); (case i_size => k_is); (case l_size => k_is); (case c_size => k_is); (case k_size => k_is); (case a_own => k_is)
    (case i_own => k_is); (case l_own => k_is); (case c_own => k_is); (case k_own => k_is); (case a_hidden => k_is); (case i_hidden => k_is)
    (case l_hidden => k_is); (case c_hidden => k_is); (case k_hidden => k_is); (case a_ahead => k_is); (case i_ahead => k_is); (case l_ahead => k_is)
    (case c_ahead => k_is); (case k_ahead => k_is); (case a_total => k_is); (case i_total => k_is); (case l_total => k_is); (case c_total => k_is)
    (case k_total => k_is); (case a_exceptions => k_is); (case i_exceptions => k_is); (case l_exceptions => k_is); (case c_exceptions => k_is); (case k_exceptions => k_is)
    (case p_Sizes => k_is); (case hd_Sizes => k_is); (case po_Sizes => k_is); (case sa_Sizes => k_is); (case n_Sizes_many => k_is); (case n_Sizes_common => k_is)
    (case n_Sizes_odd => k_is); (case mk_Sizes => k_is); (case kc_Sizes => k_is); (case ia_Sizes => k_is); (case io => k_is); (case it => k_is)
    (case im_Sizes => k_is); (case ex_NoIndex => k_exc); (case ek_NoIndex => k_is); (case eb_NoIndex => k_is); (case et_NoIndex => k_is); (case ec_NoIndex => k_is)
    (case es_NoIndex => k_is); (case ex_BadMany => k_exc); (case ek_BadMany => k_is); (case eb_BadMany => k_is); (case et_BadMany => k_is); (case ec_BadMany => k_is)
    (case es_BadMany => k_is); (case ex_BadSize => k_exc); (case ek_BadSize => k_is); (case eb_BadSize => k_is); (case et_BadSize => k_is); (case ec_BadSize => k_is)
    (case es_BadSize => k_is); (case ex_GridError => k_exc); (case ek_GridError => k_is); (case eb_GridError => k_is); (case et_GridError => k_is); (case ec_GridError => k_is)
    (case es_GridError => k_is); (case xg_BadMany => k_is); (case xk_BadMany => k_is); (case xd_BadMany => k_is); (case xc_BadMany => k_is); (case xm_BadMany => k_is)
    (case xg_BadSize => k_is); (case xk_BadSize => k_is); (case xd_BadSize => k_is); (case xc_BadSize => k_is); (case xm_BadSize => k_is); (case xg_NoIndex => k_is)
    (case xk_NoIndex => k_is); (case xd_NoIndex => k_is); (case xc_NoIndex => k_is); (case xm_NoIndex => k_is); (case u1 => k_is); (case u2 => k_is)
    (case u3 => k_is); (case u4 => k_is); (case u5 => k_is); (case u6 => k_is); (case u7 => k_is); (case g_KD => k_is)
