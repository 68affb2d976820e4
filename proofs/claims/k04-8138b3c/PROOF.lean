import PyProof.Rows.All
import Wide.All
import OpenK.AllK
import Wide.FinOn
import HandS.ForMost
import HandS.Deep
import HandS.IsInst
import HandS.Codes
import HandS.ForExc
import HandS.RaiseMore
import HandS.FStr
import HandS.More
import HandS.Walk
import HandS.MakeKwOnly
import HandS.ExcIs
import HandS.OwnEq
import HandS.Conv
import PySem.Challenge.RW_gridscope_k04_whole_great_sizes
set_option Elab.async false
set_option linter.all false
set_option maxRecDepth 100000
set_option maxHeartbeats 4000000
namespace Gs
open PySem L2
/-! ### a def of the text, by its name, as its callers use it -/
def Dn (P : Program) (w : World) (K : PySem.W.Frag) (mg : Str → Option Value) (base : Heap) (CX : CXT) (k : Nat) (x : Str) (ps : List Str) (sp : Sp) : Prop :=
  ∃ (f : Addr) (fd : FuncData), FnOk P w K mg base CX k f fd ps sp ∧ mg x = some (.ref f) ∧ PySem.W.keepIn K (.ref f) = true ∧ Binds K fd ps []
theorem Dn.mono {P : Program} {w : World} {K : PySem.W.Frag} {mg : Str → Option Value} {base : Heap} {CX : CXT} {j k : Nat} {x : Str} {ps : List Str} {sp : Sp} (D : Dn P w K mg base CX j x ps sp) (h : j ≤ k) : Dn P w K mg base CX k x ps sp := by
  obtain ⟨f, fd, F, m, kp, b⟩ := D
  exact ⟨f, fd, F.mono h, m, kp, b⟩
theorem Dn.imp {P : Program} {w : World} {K : PySem.W.Frag} {mg : Str → Option Value} {base : Heap} {CX : CXT} {k : Nat} {x : Str} {ps : List Str} {sp sp' : Sp} (D : Dn P w K mg base CX k x ps sp) (h : ∀ vs H Q E, sp' vs H Q E → sp vs H Q E) : Dn P w K mg base CX k x ps sp' := by
  obtain ⟨f, fd, F, m, kp, b⟩ := D
  exact ⟨f, fd, F.imp h, m, kp, b⟩
theorem pe_callD {X : Cx} {CX : CXT} {k : Nat} {x : Str} {ps : List Str} {sp : Sp} {E : XK} {p pos : Pos} {e : Expr} {es : List Expr} {t : TA} (D : Dn X.prog X.w X.K X.mg X.base CX k x ps sp) (hr : Room k X.A) (hg : Gl X x) (hx : Passes CX X E)
    (ha : PA X (e :: es) t) (hdb : (x == ("__debug__" : Str)) = false := by decide) (he : starEach (e :: es) X.env = (false, eval e X.env) :: starEach es X.env := by rfl) (hpl : (backTo pos (starEach es X.env)).any (·.1) = false := by rfl) :
    PE X (.Call (.Name x p) (e :: es) [] pos) (tCall sp [] E t) := by
  obtain ⟨f, fd, F, m, kp, b⟩ := D
  exact pe_call F hr hg m kp b .nil hx ha hdb he hpl
theorem pe_callSD {X : Cx} {CX : CXT} {k : Nat} {x : Str} {ps : List Str} {sp : Sp} {E : St → XK} {p pos : Pos} {e : Expr} {es : List Expr} {t : TA} (D : Dn X.prog X.w X.K X.mg X.base CX k x ps sp) (hr : Room k X.A) (hg : Gl X x) (hx : ∀ σ, PassesAt CX X σ (E σ))
    (ha : PA X (e :: es) t) (hdb : (x == ("__debug__" : Str)) = false := by decide) (he : starEach (e :: es) X.env = (false, eval e X.env) :: starEach es X.env := by rfl) (hpl : (backTo pos (starEach es X.env)).any (·.1) = false := by rfl) :
    PE X (.Call (.Name x p) (e :: es) [] pos) (tCallS sp E t) := by
  obtain ⟨f, fd, F, m, kp, b⟩ := D
  exact pe_callS F hr hg m kp b hx ha hdb he hpl
/-- what the top says of an own exception class without a method of its own -/
structure ExcOk (K : PySem.W.Frag) (mg : Str → Option Value) (x : Str) (C : Addr) (bm : List Value) (nid : String) : Prop where
  g : mg x = some (.ref C)
  ex : PySem.W.excIn K C bm nid = true
  kp : PySem.W.keepIn K (.ref C) = true
  b : PySem.W.subIn K (.ref C) (.type "BaseException") = some true
  t : PySem.W.typeIn K (.ref C) = some (.type "type")
  cl : PySem.W.isClsIn K C = true
  sf : PySem.W.subIn K (.ref C) (.ref C) = some true
theorem exm_own {K : PySem.W.Frag} {cls : Value} {C : Addr} {b : Bool} (hb : PySem.W.subIn K (.ref C) (.type "BaseException") = some true) (hc : PySem.W.isClsIn K C = true) (ht : PySem.W.typeIn K (.ref C) = some (.type "type")) (hs : PySem.W.subIn K cls (.ref C) = some b) : PySem.W.exmOne K cls (.ref C) = some b := by
  have h1 : PySem.W.kitCls K cls (.ref C) = some b := by
    show (if ((PySem.W.clsIn K C).isSome && PySem.W.typeIn K (.ref C) == some (.type "type")) = true then PySem.W.subIn K cls (.ref C) else none) = some b
    have h2 : (PySem.W.clsIn K C).isSome = true := hc
    rw [h2, ht, if_pos (by simp)]
    exact hs
  unfold PySem.W.exmOne
  rw [hb, if_pos (by simp)]
  exact h1
theorem ExcOk.me {K : PySem.W.Frag} {mg : Str → Option Value} {x : Str} {C : Addr} {bm : List Value} {nid : String} (e : ExcOk K mg x C bm nid) : PySem.W.exmOne K (.ref C) (.ref C) = some true := exm_own e.b e.cl e.t e.sf
abbrev ieL : List Value := [.type "IndexError", .type "LookupError", .type "Exception", .type "BaseException", .type "object"]
abbrev leL : List Value := [.type "LookupError", .type "Exception", .type "BaseException", .type "object"]
abbrev veL : List Value := [.type "ValueError", .type "Exception", .type "BaseException", .type "object"]
theorem glS {X : Cx} {x z : Str} {t : Tok} {pos : Pos} (hg : Gl X x) (hm : X.mg x = some (.str z t)) (hd : (x == ("__debug__" : Str)) = false := by decide) : PE X (.Name x pos) (tC (.str z)) := pe_glob hg hm ⟨t, rfl⟩ hd
theorem glI {X : Cx} {x : Str} {i : Int} {t : Tok} {pos : Pos} (hg : Gl X x) (hm : X.mg x = some (.int i t)) (hd : (x == ("__debug__" : Str)) = false := by decide) : PE X (.Name x pos) (tC (.int i)) := pe_glob hg hm ⟨t, rfl⟩ hd
/-! ### heaps -/
theorem same_new {H : Hp} {p : Addr} (h : H p = none) (o : HO) : Same H (upd H p o) := fun b u q => by rw [upd_ne (ne_of_none q h)]; exact q
theorem Same.tup {K : PySem.W.Frag} {H H' : Hp} {a : Addr} {xs : List V} (e : Same H H') (h : SqT K H a xs) : SqT K H' a xs := by
  rcases h with (h | ⟨o, h⟩) | h
  · exact .inl (.inl (e _ _ h))
  · exact .inl (.inr ⟨o, e _ _ h⟩)
  · exact .inr h
theorem small {n : Nat} (h : n ≤ 1000) : n ≤ sizeLine := Nat.le_of_lt (small1000 h)
/-! ### data at any depth -/
mutual
theorem dp_same {K : PySem.W.Frag} {H H' : Hp} (e : Same H H') : ∀ (d : PyData) (v : V), Dp K H v d → Dp K H' v d
  | .none, _, h => by cases h; exact .non
  | .bool b, _, h => by cases h; exact .bl b
  | .int i, _, h => by cases h; exact .int i
  | .str x, _, h => by cases h; exact .str x
  | .list ds, _, h => by
    cases h with
    | lst s a => exact .lst (e.seq s) (dpAll_same e ds _ a)
  | .tuple ds, _, h => by
    cases h with
    | tup s a => exact .tup (Same.tup e s) (dpAll_same e ds _ a)
  | .dict b, _, h => by cases h
theorem dpAll_same {K : PySem.W.Frag} {H H' : Hp} (e : Same H H') : ∀ (ds : List PyData) (vs : List V), DpAll K H vs ds → DpAll K H' vs ds
  | [], _, h => by cases h; exact .nil
  | d :: ds, _, h => by
    cases h with
    | cons a b => exact .cons (dp_same e d _ a) (dpAll_same e ds _ b)
end
theorem dpI {K : PySem.W.Frag} {H : Hp} {i j : Int} (e : i = j) : Dp K H (.int i) (.int j) := by subst e; exact .int _
theorem dpB {K : PySem.W.Frag} {H : Hp} {i j : Bool} (e : i = j) : Dp K H (.bl i) (.bool j) := by subst e; exact .bl _
theorem dpS {K : PySem.W.Frag} {H : Hp} {i j : Str} (e : i = j) : Dp K H (.str i) (.str j) := by subst e; exact .str _
theorem dpAll_len {K : PySem.W.Frag} {H : Hp} : ∀ {vs : List V} {ds : List PyData}, DpAll K H vs ds → vs.length = ds.length
  | _, _, .nil => rfl
  | _, _, .cons _ b => by simp [dpAll_len b]
theorem dpAll_get {K : PySem.W.Frag} {H : Hp} : ∀ {vs : List V} {ds : List PyData} {i : Nat} {d : PyData}, DpAll K H vs ds → ds[i]? = some d → ∃ v, vs[i]? = some v ∧ Dp K H v d
  | _, _, _, _, .nil, e => by simp at e
  | _, _, 0, _, .cons a _, e => by simp at e; subst e; exact ⟨_, rfl, a⟩
  | _, _, i + 1, _, .cons _ b, e => by simpa using dpAll_get (i := i) b (by simpa using e)

/-! ### the law's own helpers: what each of them promises -/
/-- a draw: what is left of the script, its place, what is left of a great number, the seed, the count -/
def drawO (l : Addr) (i left seed n : Int) : HO := .lst [.ref l, .int i, .int left, .int seed, .int n]
def DrawAt (H : Hp) (a : Addr) : Prop := ∃ (l : Addr) (ns : List Int) (i left seed n : Int), H a = some (drawO l i left seed n) ∧ H l = some (.lst (ns.map V.int)) ∧ 0 ≤ i ∧ 0 ≤ seed ∧ seed < 1000000007
/-- all but the draw is as it was -/
def Ext (a : Addr) (H H' : Hp) : Prop := DrawAt H' a ∧ ∀ b o, b ≠ a → H b = some o → H' b = some o
theorem DrawAt.ne {H : Hp} {a l : Addr} {i left seed n : Int} {ns : List Int} (h1 : H a = some (drawO l i left seed n)) (h2 : H l = some (.lst (ns.map V.int))) : l ≠ a := by
  refine ne_of h2 h1 ?_
  intro e
  unfold drawO at e
  cases ns with
  | nil => simp at e
  | cons x r => simp at e
theorem DrawAt.same {H H' : Hp} {a : Addr} (d : DrawAt H a) (e : Same H H') : DrawAt H' a := by
  obtain ⟨l, ns, i, left, seed, n, h1, h2, r⟩ := d
  exact ⟨l, ns, i, left, seed, n, e _ _ h1, e _ _ h2, r⟩
theorem Ext.trans {a : Addr} {H H1 H2 : Hp} (x : Ext a H H1) (y : Ext a H1 H2) : Ext a H H2 := ⟨y.1, fun b o n h => y.2 b o n (x.2 b o n h)⟩
theorem Ext.same {a : Addr} {H H1 H2 : Hp} (x : Ext a H H1) (y : Same H1 H2) : Ext a H H2 := ⟨x.1.same y, fun b o n h => y b o (x.2 b o n h)⟩
theorem Ext.of {a : Addr} {H H1 : Hp} (d : DrawAt H a) (y : Same H H1) : Ext a H H1 := ⟨d.same y, fun b o _ h => y b o h⟩
theorem DrawAt.neT {H : Hp} {a b : Addr} {xs : List V} (d : DrawAt H a) (h : H b = some (.tup xs)) : b ≠ a := by
  obtain ⟨l, ns, i, left, seed, n, h1, h2, r⟩ := d
  exact ne_of h h1 (by intro e; unfold drawO at e; cases e)
/-- a tuple stays -/
theorem Ext.tup {a b : Addr} {H H1 : Hp} {xs : List V} (x : Ext a H H1) (d : DrawAt H a) (h : H b = some (.tup xs)) : H1 b = some (.tup xs) := x.2 b _ (d.neT h) h
/-! the longest list or tuple in it -/
mutual
def mxl : PyData → Nat
  | .list ds => max ds.length (mxlAll ds)
  | .tuple ds => max ds.length (mxlAll ds)
  | _ => 0
def mxlAll : List PyData → Nat
  | [] => 0
  | d :: r => max (mxl d) (mxlAll r)
end
theorem mxl_get : ∀ {ds : List PyData} {i : Nat} {d : PyData}, ds[i]? = some d → mxl d ≤ mxlAll ds
  | [], _, _, e => by simp at e
  | x :: r, 0, d, e => by
    simp at e
    subst e
    simp only [mxlAll]
    omega
  | x :: r, i + 1, d, e => by
    have := mxl_get (ds := r) (i := i) (d := d) (by simpa using e)
    simp only [mxlAll]
    omega
def spBegin (K : PySem.W.Frag) : Sp := fun vs H Q _ => ∃ (s : Addr) (ns : List Int), vs = [.ref s] ∧ SqL K H s (ns.map V.int) ∧ ∀ (a : Addr) (H' : Hp), H a = none → DrawAt H' a → Same H H' → Q (.ref a) H'
def spPick : Sp := fun vs H Q _ => ∃ (a : Addr) (many : Int), vs = [.ref a, .int many] ∧ DrawAt H a ∧ 1 ≤ many ∧ many < 1073741824 ∧
  ∀ (r : Int) (H' : Hp), 0 ≤ r → r < many → DrawAt H' a → (∀ b, b ≠ a → H' b = H b) → Q (.int r) H'
def spSame (K : PySem.W.Frag) (n : Nat) : Sp := fun vs H Q _ => ∃ (x y : V) (d : PyData), vs = [x, y] ∧ Dp K H x d ∧ Dp K H y d ∧ d.depth < n ∧ mxl d ≤ 100000 ∧ ∀ H', Same H H' → Q (.bl true) H'
theorem same_none {P : Program} {w : World} {K : PySem.W.Frag} {mg : Str → Option Value} {base : Heap} {f : Addr} {fd : FuncData} : FnOk P w K mg base CX0 0 f fd ["_law_found", "_law_due"] (spSame K 0) := by
  have no : ∀ vs H Q E, ¬ spSame K 0 vs H Q E := fun vs H Q E h => by
    obtain ⟨x, y, d, _, _, _, h1, _⟩ := h
    omega
  exact ⟨fun vs H Q E h => absurd h (no vs H Q E), fun A outer s H args us vs Q E _ _ _ _ h => absurd h (no vs H Q E)⟩
/-! ### isinstance -/
theorem kit2 {K : PySem.W.Frag} {a b c : String} {r1 r2 : Bool} (h : kitB a b = some r1) (h2 : kitB a c = some r2) : PySem.W.kitAny K (.type a) [.type b, .type c] = some (r1 || r2) := by
  refine kitAny_cons (kit_ty h) (fun e => ?_) (fun e => by rw [e]; rfl)
  rw [e, Bool.false_or]
  refine kitAny_cons (kit_ty h2) (fun e => ?_) (fun e => e)
  rw [e]
  rfl
theorem cls2 (b c : String) : Paired ClsV [.ty b, .ty c] [.type b, .type c] := .cons (.ty b) (.cons (.ty c) .nil)
theorem tyx_list {K : PySem.W.Frag} {H : Hp} {a : Addr} {xs : List V} (h : SqL K H a xs) : TyX K H (.ref a) (.type "list") := by
  rcases h with (h | ⟨o, h⟩) | ⟨o, its, n, h, c, _⟩
  · exact .base (.lst h)
  · exact .base (.frz h)
  · exact .kList h c
theorem tyx_tuple {K : PySem.W.Frag} {H : Hp} {a : Addr} {xs : List V} (h : SqT K H a xs) : TyX K H (.ref a) (.type "tuple") := by
  rcases h with (h | ⟨o, h⟩) | ⟨o, its, n, h, c, _⟩
  · exact .base (.tup h)
  · exact .fTuple h
  · exact .kTuple h c
theorem ixLk {X : Cx} {K : PySem.W.Frag} (h : X.K = K) : IxR X (rIxL K) := by subst h; exact ix_list
theorem ixTk {X : Cx} {K : PySem.W.Frag} (h : X.K = K) : IxR X (rIxT K) := by subst h; exact ix_tup
theorem ixQk {X : Cx} {K : PySem.W.Frag} (h : X.K = K) : IxR X (rIx K) := by subst h; exact ix_seq
theorem inDk {X : Cx} {K : PySem.W.Frag} (h : X.K = K) (hu : X.A.units + 65 < cLine) : OpR X (compareOp .In) (rInD K) := by subst h; exact op_inD hu
theorem ifT {c A B : Prop} [Decidable c] (h : c) (x : A) : if c then A else B := by rw [if_pos h]; exact x
theorem ifF {c A B : Prop} [Decidable c] (h : ¬ c) (x : B) : if c then A else B := by rw [if_neg h]; exact x
theorem cut_ints (ns : List Int) (lo hi : Option Int) : ∃ ms : List Int, cutV (ns.map V.int) lo hi = ms.map V.int := by
  unfold cutV
  exact ⟨_, by rw [← List.map_drop, ← List.map_take]⟩
theorem shaped_bool (b : Bool) : SeqAt.shaped (.bool b) = true := by simp [SeqAt.shaped, PyData.canLay0, PyData.depth]
theorem shaped_int (b : Int) : SeqAt.shaped (.int b) = true := by simp [SeqAt.shaped, PyData.canLay0, PyData.depth]
theorem shaped_eqv {d : PyData} (h : SeqAt.shaped d = true) : PyData.eqv d d = true := SeqAt.eqv_refl d (SeqAt.canLay_of_shaped h)
theorem depth_get : ∀ {ds : List PyData} {i : Nat} {d : PyData}, ds[i]? = some d → d.depth ≤ PyData.depthAll ds
  | [], _, _, e => by simp at e
  | x :: r, 0, d, e => by
    simp at e
    subst e
    simp only [PyData.depthAll]
    omega
  | x :: r, i + 1, d, e => by
    have := depth_get (ds := r) (i := i) (d := d) (by simpa using e)
    simp only [PyData.depthAll]
    omega
theorem rep_bl (n : Nat) : List.replicate n (V.bl true) = (List.replicate n true).map V.bl := by simp
theorem rep_all (n : Nat) : (List.replicate n true).all id = true := by simp
theorem rep_succ (n : Nat) : List.replicate n (V.bl true) ++ [V.bl true] = List.replicate (n + 1) (V.bl true) := by
  rw [← List.replicate_succ']
end Gs

set_option Elab.async false
set_option linter.all false
set_option maxRecDepth 100000
set_option maxHeartbeats 4000000
namespace Gs
open PySem L2
/-! ### methods of an own class -/
def Mn (P : Program) (w : World) (K : PySem.W.Frag) (mg : Str → Option Value) (base : Heap) (CX : CXT) (k : Nat) (C : Addr) (m : Str) (ps : List Str) (sp : Sp) : Prop :=
  ∃ (f : Addr) (fd : FuncData), FnOk P w K mg base CX k f fd ps sp ∧ Meth K C m f ∧ Binds K fd ps []
theorem Mn.mono {P : Program} {w : World} {K : PySem.W.Frag} {mg : Str → Option Value} {base : Heap} {CX : CXT} {j k : Nat} {C : Addr} {m : Str} {ps : List Str} {sp : Sp} (D : Mn P w K mg base CX j C m ps sp) (h : j ≤ k) : Mn P w K mg base CX k C m ps sp := by
  obtain ⟨f, fd, F, m, b⟩ := D
  exact ⟨f, fd, F.mono h, m, b⟩
theorem Mn.imp {P : Program} {w : World} {K : PySem.W.Frag} {mg : Str → Option Value} {base : Heap} {CX : CXT} {k : Nat} {C : Addr} {m : Str} {ps : List Str} {sp sp' : Sp} (D : Mn P w K mg base CX k C m ps sp) (h : ∀ vs H Q E, sp' vs H Q E → sp vs H Q E) : Mn P w K mg base CX k C m ps sp' := by
  obtain ⟨f, fd, F, m, b⟩ := D
  exact ⟨f, fd, F.imp h, m, b⟩
section
variable {X : Cx} {CX : CXT} {k : Nat} {C : Addr} {m : Str} {ps : List Str} {sp : Sp} {p pos apos : Pos} {e o : Expr} {es : List Expr} {ta : TE} {t : TA}
theorem pe_methD {E : XK} {pl : Sem Bool} (c : Cls X.K C) (D : Mn X.prog X.w X.K X.mg X.base CX k C m ps sp) (hr : Room k X.A) (hx : Passes CX X E) (he : PE X o ta) (ha : PA X (e :: es) t)
    (hst : starEach (e :: es) X.env = (false, eval e X.env) :: starEach es X.env := by rfl) (hpl : (backTo pos (starEach es X.env)).any (·.1) = false := by rfl)
    (ht : eval (.Call (.Attribute o m apos) (e :: es) [] pos) X.env = (do let ov ← eval o X.env; standAt apos.atName; let (f, first) ← holding [ov] (getMethod ov m pl); callWith pos f first (backTo pos (starEach (e :: es) X.env)) (backToKw pos (keywordEach [] X.env))) := by rfl) :
    PE X (.Call (.Attribute o m apos) (e :: es) [] pos) (tMeth C m sp [] E ta t) := by
  obtain ⟨f, fd, F, hm, b⟩ := D
  exact pe_meth he c hm F hr b .nil hx ha hst hpl ht
theorem pe_methD0 {E : XK} {pl : Sem Bool} (c : Cls X.K C) (D : Mn X.prog X.w X.K X.mg X.base CX k C m ps sp) (hr : Room k X.A) (hx : Passes CX X E) (he : PE X o ta)
    (ht : eval (.Call (.Attribute o m apos) [] [] pos) X.env = (do let ov ← eval o X.env; standAt apos.atName; let (f, first) ← holding [ov] (getMethod ov m pl); callWith pos f first (backTo pos (starEach [] X.env)) (backToKw pos (keywordEach [] X.env))) := by rfl) :
    PE X (.Call (.Attribute o m apos) [] [] pos) (tMeth C m sp [] E ta tNil) := by
  obtain ⟨f, fd, F, hm, b⟩ := D
  exact pe_meth0 he c hm F hr b .nil hx ht
/-- within a try: what is raised is wished for at the slots -/
def tMethAt (C : Addr) (m : Str) (sp : Sp) (E : St → XK) (ta : TE) (t : TA) : TE := fun σ H Q => ta σ H fun x H1 => ∃ a dx fs, x = .ref a ∧ H1 a = some (.ins C dx fs) ∧ fs.lookup m = none ∧ t σ H1 fun vs H2 => sp (x :: vs) H2 Q (E σ)
theorem pe_methSD {E : St → XK} {pl : Sem Bool} (c : Cls X.K C) (D : Mn X.prog X.w X.K X.mg X.base CX k C m ps sp) (hr : Room k X.A) (hx : ∀ σ, PassesAt CX X σ (E σ)) (he : PE X o ta) (ha : PA X (e :: es) t)
    (hst : starEach (e :: es) X.env = (false, eval e X.env) :: starEach es X.env := by rfl) (hpl : (backTo pos (starEach es X.env)).any (·.1) = false := by rfl)
    (ht : eval (.Call (.Attribute o m apos) (e :: es) [] pos) X.env = (do let ov ← eval o X.env; standAt apos.atName; let (f, first) ← holding [ov] (getMethod ov m pl); callWith pos f first (backTo pos (starEach (e :: es) X.env)) (backToKw pos (keywordEach [] X.env))) := by rfl) :
    PE X (.Call (.Attribute o m apos) (e :: es) [] pos) (tMethAt C m sp E ta t) := by
  obtain ⟨f, fd, F, hm, b⟩ := D
  refine ⟨fun pins s σ H Q I h => PySem.W.methodCall_KW (pl := pl) (thn (he.run pins s σ H _ I h) fun u s1 hh => ?_) ht⟩
  obtain ⟨x, H1, I1, rx, a, dx, fs, ex, ea, l, q⟩ := hh
  subst ex
  obtain rfl : u = Value.ref a := rx
  refine getmeth_ok I1 ea c hm l (PySem.W.callWith_K (first := [.ref a]) (h₀ := X.base) I.ok.mod.kin hm.kp (thn (ha.run pos pins s1 σ H1 _ I1 q) fun us s2 hh => ?_) hst hpl)
  obtain ⟨vs, H2, I2, r, q2⟩ := hh
  exact ⟨I2.kIn, run_fnS (us := .ref a :: us) (vs := .ref a :: vs) F hr b (hx σ) I2 (.cons rfl r) q2⟩
theorem fldK {K : PySem.W.Frag} {f : Str} (h : X.K = K) (he : PE X o ta) (hb : attributeBase o f X.env (eval o X.env) = eval o X.env) : PE X (.Attribute o f pos) (tFld K ta f) := by
  subst h
  exact pe_fld he hb
end
/-! ### ints that may be written in a text -/
def Sm (i : Int) : Prop := i.natAbs < 2 ^ 200
theorem Sm.log {i : Int} (h : Sm i) : i.natAbs.log2 < 1920 := by
  by_cases z : i.natAbs = 0
  · rw [z]
    decide
  · have h1 : i.natAbs.log2 < 200 := (Nat.log2_lt z).mpr h
    omega
theorem Sm.of {i : Int} (h0 : -(10 ^ 40) ≤ i) (h1 : i ≤ 10 ^ 40) : Sm i := by
  have : i.natAbs ≤ 10 ^ 40 := by omega
  exact Nat.lt_of_le_of_lt this (by decide)
theorem Sm.len {i : Int} (h : Sm i) : (Str.ofString (toString i)).length ≤ 201 := by
  have h1 : i.natAbs.log2 < 200 := by
    by_cases z : i.natAbs = 0
    · rw [z]
      decide
    · exact (Nat.log2_lt z).mpr h
  have e := PySem.int_text_length_le (k := 200) (by decide) h1
  rw [PySem.ofString_length]
  exact e
/-! ### repr of an own class -/
def rRepr (C : Addr) (sp : Sp) (E : XK) : List V → Hp → VK → Prop := fun xs H Q => ∃ a dx fs, xs = [.ref a] ∧ H a = some (.ins C dx fs) ∧ sp [.ref a] H (fun v H' => (∃ z, v = .str z) ∧ Q v H') E
theorem call_repr {X : Cx} {CX : CXT} {k : Nat} {C f : Addr} {fd : FuncData} {ps : List Str} {sp : Sp} {E : XK} (F : FnOk X.prog X.w X.K X.mg X.base CX k f fd ps sp) (hs : PySem.W.findIn X.K (.ref C) "__repr__" = some (some (.ref f))) (hf : PySem.W.isFn X.K (.ref f) = true)
    (hb : Binds X.K fd ps []) (hr : Room (k + 1) X.A) (hx : Passes CX X E) : CallR X (.builtin "repr") (rRepr C sp E) := by
  intro pins s σ H xs us Q I r h
  obtain ⟨a, dx, fs, rfl, ha, hsp⟩ := h
  obtain ⟨u, rfl, ru⟩ := vals1 r
  cases ru
  obtain ⟨mA, J, _⟩ := ins_get I.hok ha
  obtain ⟨od, J, _⟩ := J.look
  obtain ⟨m, hF⟩ := I.fr
  have e := I.env0
  have e0 : Env0 X.prog X.w X.K X.mg X.base X.A.in1 X.stack s H := ⟨e.frames, e.mod, e.bs, e.bsz, e.funs, e.frf, e.hok, e.bare⟩
  have hl := F.len _ _ _ _ hsp
  refine PySem.W.repr_K hr.in1.units0 hF I.ok.mod.kin J hs hf ?_
  have b0 := hb s [.ref a] I.kIn (by rw [List.append_nil]; exact hl)
  rw [List.append_nil] at b0
  refine wpAny_call (codeAny_mono (F.run X.A.in1 X.stack s H ⟨[.ref a], []⟩ [.ref a] [.ref a] _ E hr.in1 e0 b0 (.cons rfl .nil) hsp) fun r s' hq => ?_)
  cases r with
  | error e => exact hx pins σ H s e s' I hq
  | ok fl =>
    cases fl with
    | ret w =>
      obtain ⟨z, H', I', rz, ⟨y, ez⟩, ex⟩ := I.after hq
      subst ez
      obtain ⟨tk, rfl⟩ := rz
      exact ⟨.str y, H', I', ⟨tk, rfl⟩, ex⟩
    | next => exact False.elim hq
    | brk => exact False.elim hq
    | cont => exact False.elim hq
/-! ### a row of sizes -/
structure Sz where
  many : Int
  common : Int
  odd : List (Int × Int × Bool)
def fldZ (n c : Int) (d : Addr) : List (Str × V) := putF "odd" (.ref d) (putF "common" (.int c) (putF "many" (.int n) []))
theorem ne1 : ¬ (("many" : Str) = "common") := by decide +kernel
theorem ne2 : ¬ (("many" : Str) = "odd") := by decide +kernel
theorem ne3 : ¬ (("common" : Str) = "odd") := by decide +kernel
theorem fldZ_eq (n c : Int) (d : Addr) : fldZ n c d = ([("many", .int n), ("common", .int c), ("odd", .ref d)] : List (Str × V)) := by
  unfold fldZ
  simp only [putF, if_neg ne1, if_neg ne2, if_neg ne3]
theorem fz_many (n c : Int) (d : Addr) : (fldZ n c d).lookup ("many" : Str) = some (.int n) := by
  unfold fldZ
  rw [lookup_putF, if_neg ne2, lookup_putF, if_neg ne1, lookup_putF, if_pos rfl]
theorem fz_common (n c : Int) (d : Addr) : (fldZ n c d).lookup ("common" : Str) = some (.int c) := by
  unfold fldZ
  rw [lookup_putF, if_neg ne3, lookup_putF, if_pos rfl]
theorem fz_odd (n c : Int) (d : Addr) : (fldZ n c d).lookup ("odd" : Str) = some (.ref d) := by
  unfold fldZ
  rw [lookup_putF, if_pos rfl]
theorem fz_no (n c : Int) (d : Addr) {m : Str} (h1 : (decide (m = "many") || decide (m = "common") || decide (m = "odd")) = false := by decide +kernel) : (fldZ n c d).lookup m = none := by
  simp only [Bool.or_eq_false_iff, decide_eq_false_iff_not] at h1
  unfold fldZ
  rw [lookup_putF, if_neg h1.2, lookup_putF, if_neg h1.1.2, lookup_putF, if_neg h1.1.1]
  rfl
theorem fz_put_odd (n c : Int) (d e : Addr) : putF "odd" (.ref e) (fldZ n c d) = fldZ n c e := by
  rw [fldZ_eq, fldZ_eq]
  simp only [putF, if_neg ne2, if_neg ne3, if_true]
theorem fz_put_many (n m c : Int) (d : Addr) : putF "many" (.int m) (fldZ n c d) = fldZ m c d := by
  rw [fldZ_eq, fldZ_eq]
  simp only [putF, if_true]
theorem fz_few (n c : Int) (d : Addr) : (fldZ n c d).length < 1000 := by rw [fldZ_eq]; show 3 < 1000; decide
abbrev OddE := Int × Int × Bool
def OddAt (H : Hp) (kvs : List (Key × V)) (odd : List OddE) : Prop := Paired (fun (kv : Key × V) (e : OddE) => kv.1 = Sum.inl e.1 ∧ ∃ t, kv.2 = .ref t ∧ H t = some (.tup [.int e.2.1, .bl e.2.2])) kvs odd
/-- tuples stay -/
def TupSame (H H' : Hp) : Prop := ∀ t xs, H t = some (.tup xs) → H' t = some (.tup xs)
theorem TupSame.of {H H' : Hp} (s : Same H H') : TupSame H H' := fun t xs h => s t _ h
theorem TupSame.trans {H H1 H2 : Hp} (a : TupSame H H1) (b : TupSame H1 H2) : TupSame H H2 := fun t xs h => b t xs (a t xs h)
theorem TupSame.upd {H : Hp} {D : Addr} {u : HO} (h : H D = some u) (hu : ∀ xs, u ≠ .tup xs) (o : HO) : TupSame H (L2.upd H D o) := fun t xs q => by
  rw [upd_ne (ne_of q h (fun e => hu xs e.symm))]
  exact q
theorem OddAt.mono {H H' : Hp} (s : TupSame H H') : ∀ {kvs : List (Key × V)} {odd : List OddE}, OddAt H kvs odd → OddAt H' kvs odd
  | _, _, .nil => .nil
  | _, _, .cons ⟨e, t, e2, h⟩ r => .cons ⟨e, t, e2, s _ _ h⟩ (OddAt.mono s r)
theorem OddAt.len {H : Hp} : ∀ {kvs : List (Key × V)} {odd : List OddE}, OddAt H kvs odd → kvs.length = odd.length
  | _, _, .nil => rfl
  | _, _, .cons _ r => by simp [OddAt.len r]
theorem OddAt.keys {H : Hp} : ∀ {kvs : List (Key × V)} {odd : List OddE}, OddAt H kvs odd → kvs.map (·.1) = (odd.map (·.1)).map Sum.inl
  | _, _, .nil => rfl
  | _, _, .cons ⟨e, _⟩ r => by simp [OddAt.keys r, e]
def look (odd : List OddE) (i : Int) : Option (Int × Bool) := (odd.find? fun e => decide (e.1 = i)).map (·.2)
theorem OddAt.look {H : Hp} : ∀ {kvs : List (Key × V)} {odd : List OddE} (i : Int), OddAt H kvs odd → (valV kvs (Sum.inl i) = none ∧ Gs.look odd i = none) ∨ ∃ t x, valV kvs (Sum.inl i) = some (.ref t) ∧ Gs.look odd i = some x ∧ H t = some (.tup [.int x.1, .bl x.2])
  | _, _, i, .nil => .inl ⟨rfl, rfl⟩
  | (k, v) :: kvs, (j, x) :: odd, i, .cons ⟨e, t, e2, h⟩ r => by
    simp only at e e2 h
    subst e e2
    by_cases hij : j = i
    · subst hij
      exact .inr ⟨t, x, by simp [valV], by simp [Gs.look], h⟩
    · have q1 : valV ((Sum.inl j, V.ref t) :: kvs) (Sum.inl i) = valV kvs (Sum.inl i) := by simp [valV, hij]
      have q2 : Gs.look ((j, x) :: odd) i = Gs.look odd i := by simp [Gs.look, hij]
      rw [q1, q2]
      exact OddAt.look i r
structure Wf (z : Sz) : Prop where
  m0 : 1 ≤ z.many
  m1 : z.many ≤ 1000000000
  c0 : 1 ≤ z.common
  c1 : z.common ≤ 60
  nd : (z.odd.map (·.1)).Nodup
  le : z.odd.length ≤ 60
  ok : ∀ e ∈ z.odd, 0 ≤ e.1 ∧ e.1 < z.many ∧ 1 ≤ e.2.1 ∧ e.2.1 ≤ 60 ∧ (e.2.1 ≠ z.common ∨ e.2.2 = true)
/-- a row of sizes stands at p, its dict at d: to be read -/
def SzR (C : Addr) (H : Hp) (p d : Addr) (z : Sz) : Prop := ∃ dx kvs, H p = some (.ins C dx (fldZ z.many z.common d)) ∧ Rd H d (.dK kvs) ∧ OddAt H kvs z.odd ∧ Wf z
/-- .. to be written -/
def SzW (C : Addr) (H : Hp) (p d : Addr) (z : Sz) : Prop := ∃ dx kvs, H p = some (.ins C dx (fldZ z.many z.common d)) ∧ H d = some (.dK kvs) ∧ OddAt H kvs z.odd ∧ Wf z
theorem SzW.r {C : Addr} {H : Hp} {p d : Addr} {z : Sz} (h : SzW C H p d z) : SzR C H p d z := by
  obtain ⟨dx, kvs, h1, h2, h3, h4⟩ := h
  exact ⟨dx, kvs, h1, .inl h2, h3, h4⟩
theorem Same.rd {H H' : Hp} (s : Same H H') {d : Addr} {u : HO} (r : Rd H d u) : Rd H' d u := by
  rcases r with r | ⟨o, r⟩
  · exact .inl (s _ _ r)
  · exact .inr ⟨o, s _ _ r⟩
theorem SzR.same {C : Addr} {H H' : Hp} {p d : Addr} {z : Sz} (h : SzR C H p d z) (s : Same H H') : SzR C H' p d z := by
  obtain ⟨dx, kvs, h1, h2, h3, h4⟩ := h
  exact ⟨dx, kvs, s _ _ h1, Same.rd s h2, h3.mono (TupSame.of s), h4⟩
theorem SzW.same {C : Addr} {H H' : Hp} {p d : Addr} {z : Sz} (h : SzW C H p d z) (s : Same H H') : SzW C H' p d z := by
  obtain ⟨dx, kvs, h1, h2, h3, h4⟩ := h
  exact ⟨dx, kvs, s _ _ h1, s _ _ h2, h3.mono (TupSame.of s), h4⟩
def stM (z : Sz) (i : Int) : Int × Bool := (look z.odd i).getD (z.common, false)
def szM (z : Sz) (i : Int) : Int := if (stM z i).2 = true then 0 else (stM z i).1
def inR (z : Sz) (i : Int) : Prop := 0 ≤ i ∧ i < z.many
/-! ### what the program's defs promise -/
def spNum (cN : Addr) : Sp := fun vs H Q E => ∃ i n : Int, vs = [.int i, .int n] ∧ Sm i ∧ Sm n ∧ (0 ≤ i ∧ i < n → Q .non H) ∧ (¬ (0 ≤ i ∧ i < n) → E (.ref cN) none H)
def spCS (cS : Addr) : Sp := fun vs H Q E => ∃ i : Int, vs = [.int i] ∧ Sm i ∧ (1 ≤ i ∧ i ≤ 60 → Q .non H) ∧ (¬ (1 ≤ i ∧ i ≤ 60) → E (.ref cS) none H)
def spState (C cN : Addr) : Sp := fun vs H Q E => ∃ (p d : Addr) (z : Sz) (i : Int), vs = [.ref p, .int i] ∧ SzR C H p d z ∧ Sm i ∧
  (inR z i → ∀ (t : Addr) (H' : Hp), Same H H' → H' t = some (.tup [.int (stM z i).1, .bl (stM z i).2]) → Q (.ref t) H') ∧ (¬ inR z i → E (.ref cN) none H)
def spQ (C cN : Addr) (g : Sz → Int → V) : Sp := fun vs H Q E => ∃ (p d : Addr) (z : Sz) (i : Int), vs = [.ref p, .int i] ∧ SzR C H p d z ∧ Sm i ∧ (inR z i → ∀ H', Same H H' → Q (g z i) H') ∧ (¬ inR z i → E (.ref cN) none H)
abbrev spSize (C cN : Addr) : Sp := spQ C cN fun z i => .int (szM z i)
abbrev spOwn (C cN : Addr) : Sp := spQ C cN fun z i => .int (stM z i).1
abbrev spHid (C cN : Addr) : Sp := spQ C cN fun z i => .bl (stM z i).2
def ahM (z : Sz) (i : Int) : Int := i * z.common + (((z.odd.map (·.1)).filter fun k => decide (k < i)).map fun k => szM z k - z.common).sum
def spAhead (C cN : Addr) : Sp := fun vs H Q E => ∃ (p d : Addr) (z : Sz) (i : Int), vs = [.ref p, .int i] ∧ SzW C H p d z ∧ Sm i ∧ (0 ≤ i ∧ i ≤ z.many → ∀ H', Same H H' → Q (.int (ahM z i)) H') ∧ (¬ (0 ≤ i ∧ i ≤ z.many) → E (.ref cN) none H)
def spTotal (C : Addr) : Sp := fun vs H Q _ => ∃ (p d : Addr) (z : Sz), vs = [.ref p] ∧ SzW C H p d z ∧ ∀ H', Same H H' → Q (.int (ahM z z.many)) H'
def spInit (C cM cS : Addr) : Sp := fun vs H Q E => ∃ (p dx : Addr) (n c : Int), vs = [.ref p, .int n, .int c] ∧ H p = some (.ins C dx []) ∧ Sm n ∧ Sm c ∧
  ((1 ≤ n ∧ n ≤ 1000000) ∧ (1 ≤ c ∧ c ≤ 60) → ∀ (d : Addr) (H' : Hp), H d = none → SzW C H' p d ⟨n, c, []⟩ → (∀ b o, H b = some o → b ≠ p → H' b = some o) → Q .non H') ∧
  (¬ (1 ≤ n ∧ n ≤ 1000000) → E (.ref cM) none H) ∧ ((1 ≤ n ∧ n ≤ 1000000) → ¬ (1 ≤ c ∧ c ≤ 60) → E (.ref cS) none H)
/-! ### small words for the loops -/
theorem OddAt.at_ {H : Hp} : ∀ {kvs : List (Key × V)} {odd : List OddE} {j : Nat} {k : Key} {v : V}, OddAt H kvs odd → kvs[j]? = some (k, v) → ∃ e, odd[j]? = some e ∧ k = Sum.inl e.1
  | _, _, _, _, _, .nil, q => by simp at q
  | _, _, 0, _, _, .cons ⟨e, _⟩ _, q => by
    simp at q
    subst q
    exact ⟨_, rfl, e⟩
  | _, _, j + 1, _, _, .cons _ r, q => by simpa using OddAt.at_ (j := j) r (by simpa using q)
theorem take_filter1 {α : Type} (l : List α) (p : α → Bool) {i : Nat} {x : α} (h : l[i]? = some x) : (l.take (i + 1)).filter p = (l.take i).filter p ++ (if p x = true then [x] else []) := by
  rw [List.take_add_one, h, List.filter_append]
  simp [List.filter_cons]
theorem take_map1 {α β : Type} (l : List α) (g : α → β) {i : Nat} {x : α} (h : l[i]? = some x) : (l.take (i + 1)).map g = (l.take i).map g ++ [g x] := by
  rw [List.take_add_one, h, List.map_append]
  rfl
/-- rows of exceptions -/
abbrev Ex3 := Int × Int × Bool
def exc1 (z : Sz) (k : Int) : Ex3 := (k, (stM z k).1, (stM z k).2)
def exD (e : Ex3) : PyData := .tuple [.int e.1, .int e.2.1, .bool e.2.2]
def DpT (H : Hp) (xs : List V) (es : List Ex3) : Prop := Paired (fun (v : V) (e : Ex3) => ∃ t, v = .ref t ∧ H t = some (.tup [.int e.1, .int e.2.1, .bl e.2.2])) xs es
theorem DpT.mono {H H' : Hp} (s : TupSame H H') : ∀ {xs : List V} {cs : List Ex3}, DpT H xs cs → DpT H' xs cs
  | _, _, .nil => .nil
  | _, _, .cons ⟨t, e, h⟩ r => .cons ⟨t, e, s _ _ h⟩ (DpT.mono s r)
theorem DpT.append {H : Hp} : ∀ {xs ys : List V} {cs ds : List Ex3}, DpT H xs cs → DpT H ys ds → DpT H (xs ++ ys) (cs ++ ds)
  | _, _, _, _, .nil, s => s
  | _, _, _, _, .cons a r, s => .cons a (DpT.append r s)
theorem DpT.len {H : Hp} : ∀ {xs : List V} {cs : List Ex3}, DpT H xs cs → xs.length = cs.length
  | _, _, .nil => rfl
  | _, _, .cons _ r => by simp [DpT.len r]
theorem DpT.dp {K : PySem.W.Frag} {H : Hp} : ∀ {xs : List V} {cs : List Ex3}, DpT H xs cs → DpAll K H xs (cs.map exD)
  | _, _, .nil => .nil
  | _, _, .cons ⟨t, e, h⟩ r => by
    subst e
    exact .cons (.tup (SqT.of h) (.cons (.int _) (.cons (.int _) (.cons (.bl _) .nil)))) (DpT.dp r)
def spExc (K : PySem.W.Frag) (C : Addr) : Sp := fun vs H Q _ => ∃ (p d : Addr) (z : Sz), vs = [.ref p] ∧ SzW C H p d z ∧ ∀ (ys : List Int) (l : Addr) (H' : Hp), ys.Perm (z.odd.map (·.1)) → ys.Pairwise (· ≤ ·) → Same H H' → Dp K H' (.ref l) (.list ((ys.map (exc1 z)).map exD)) → Q (.ref l) H'
def reprM (z : Sz) : Str := Str.empty ++ ("Sizes " : Str) ++ (toString z.many : String) ++ (" " : Str) ++ (toString z.common : String)
def spRepr (C : Addr) : Sp := fun vs H Q _ => ∃ (p d : Addr) (z : Sz), vs = [.ref p] ∧ SzR C H p d z ∧ Q (.str (reprM z)) H
end Gs

set_option Elab.async false
set_option linter.all false
set_option maxRecDepth 100000
set_option maxHeartbeats 4000000
namespace Gs
open PySem L2
/-! ### the law's own model of a row of sizes: a dict of two counts and two dicts -/
structure Zs where
  many : Int
  common : Int
  own : List (Int × Int)
  gone : List Int
def zL (n c : Int) (o g : Addr) : List (Key × V) := [(Sum.inr "many", .int n), (Sum.inr "common", .int c), (Sum.inr "own", .ref o), (Sum.inr "gone", .ref g)]
theorem nz1 : ¬ ("many" : Str) = "common" := by decide +kernel
theorem nz2 : ¬ ("many" : Str) = "own" := by decide +kernel
theorem nz3 : ¬ ("many" : Str) = "gone" := by decide +kernel
theorem nz4 : ¬ ("common" : Str) = "own" := by decide +kernel
theorem nz5 : ¬ ("common" : Str) = "gone" := by decide +kernel
theorem nz6 : ¬ ("own" : Str) = "gone" := by decide +kernel
theorem zl_many (n c : Int) (o g : Addr) : some (V.int n) = valV (zL n c o g) (Sum.inr "many") := by simp [valV, zL]
theorem zl_common (n c : Int) (o g : Addr) : some (V.int c) = valV (zL n c o g) (Sum.inr "common") := by simp [valV, zL, nz1]
theorem zl_own (n c : Int) (o g : Addr) : some (V.ref o) = valV (zL n c o g) (Sum.inr "own") := by simp [valV, zL, nz2, nz4]
theorem zl_gone (n c : Int) (o g : Addr) : some (V.ref g) = valV (zL n c o g) (Sum.inr "gone") := by simp [valV, zL, nz3, nz5, nz6]
def ownK (l : List (Int × Int)) : List (Key × V) := l.map fun e => (Sum.inl e.1, .int e.2)
def goneK (l : List Int) : List (Key × V) := l.map fun k => (Sum.inl k, .bl true)
def zown (own : List (Int × Int)) (k : Int) : Option Int := (own.find? fun e => decide (e.1 = k)).map (·.2)
theorem own_val : ∀ (own : List (Int × Int)) (k : Int), valV (ownK own) (Sum.inl k) = (zown own k).map V.int
  | [], k => rfl
  | (j, x) :: r, k => by
    by_cases h : j = k
    · subst h
      simp [valV, ownK, zown]
    · have q1 : valV (ownK ((j, x) :: r)) (Sum.inl k) = valV (ownK r) (Sum.inl k) := by simp [valV, ownK, h]
      have q2 : zown ((j, x) :: r) k = zown r k := by simp [zown, h]
      rw [q1, q2]
      exact own_val r k
theorem gone_val : ∀ (gone : List Int) (k : Int), valV (goneK gone) (Sum.inl k) = if k ∈ gone then some (.bl true) else none
  | [], k => rfl
  | j :: r, k => by
    by_cases h : j = k
    · subst h
      simp [valV, goneK]
    · have h' : ¬ k = j := fun z => h z.symm
      have q1 : valV (goneK (j :: r)) (Sum.inl k) = valV (goneK r) (Sum.inl k) := by simp [valV, goneK, h]
      rw [q1, gone_val r k]
      simp [h']
theorem gone_some (gone : List Int) (k : Int) : (valV (goneK gone) (Sum.inl k)).isSome = decide (k ∈ gone) := by
  rw [gone_val]
  by_cases h : k ∈ gone
  · rw [if_pos h, decide_eq_true h]
    rfl
  · rw [if_neg h, decide_eq_false h]
    rfl
def zkeys (z : Zs) : List Int := z.own.map (·.1) ++ z.gone.filter fun k => !(zown z.own k).isSome
structure Zok (z : Zs) : Prop where
  m0 : 1 ≤ z.many
  m1 : z.many ≤ 1000000000
  c0 : 1 ≤ z.common
  c1 : z.common ≤ 60
  le : (zkeys z).length < 64
  l1 : z.own.length ≤ 1000
  l2 : z.gone.length ≤ 1000
  ok : ∀ k ∈ zkeys z, 0 ≤ k ∧ k < z.many
structure ZAt (H : Hp) (a o g : Addr) (z : Zs) : Prop where
  ha : H a = some (.dK (zL z.many z.common o g))
  ho : H o = some (.dK (ownK z.own))
  hg : H g = some (.dK (goneK z.gone))
  ao : a ≠ o
  ag : a ≠ g
  og : o ≠ g
  ok : Zok z
theorem ZAt.same {H H' : Hp} {a o g : Addr} {z : Zs} (h : ZAt H a o g z) (s : Same H H') : ZAt H' a o g z := ⟨s _ _ h.ha, s _ _ h.ho, s _ _ h.hg, h.ao, h.ag, h.og, h.ok⟩
theorem dg_many {H : Hp} {a o g : Addr} {n c : Int} (h : H a = some (.dK (zL n c o g))) : DGet H a (.str "many") (some (.int n)) := .inl ⟨_, Sum.inr "many", .inl h, rfl, zl_many n c o g⟩
theorem dg_common {H : Hp} {a o g : Addr} {n c : Int} (h : H a = some (.dK (zL n c o g))) : DGet H a (.str "common") (some (.int c)) := .inl ⟨_, Sum.inr "common", .inl h, rfl, zl_common n c o g⟩
theorem dg_own {H : Hp} {a o g : Addr} {n c : Int} (h : H a = some (.dK (zL n c o g))) : DGet H a (.str "own") (some (.ref o)) := .inl ⟨_, Sum.inr "own", .inl h, rfl, zl_own n c o g⟩
theorem dg_gone {H : Hp} {a o g : Addr} {n c : Int} (h : H a = some (.dK (zL n c o g))) : DGet H a (.str "gone") (some (.ref g)) := .inl ⟨_, Sum.inr "gone", .inl h, rfl, zl_gone n c o g⟩
theorem dg_own1 {H : Hp} {o : Addr} {own : List (Int × Int)} (h : H o = some (.dK (ownK own))) (k : Int) : DGet H o (.int k) ((zown own k).map V.int) := .inl ⟨_, Sum.inl k, .inl h, rfl, (own_val own k).symm⟩
theorem dg_gone1 {H : Hp} {g : Addr} {gone : List Int} (h : H g = some (.dK (goneK gone))) (k : Int) : DGet H g (.int k) (valV (goneK gone) (Sum.inl k)) := .inl ⟨_, Sum.inl k, .inl h, rfl, rfl⟩
def zst (z : Zs) (k : Int) : Int × Bool := ((zown z.own k).getD z.common, decide (k ∈ z.gone))
def zsz (z : Zs) (k : Int) : Int := if k ∈ z.gone then 0 else (zown z.own k).getD z.common
theorem opt_int (o : Option Int) (c : Int) : (o.map V.int).getD (.int c) = .int (o.getD c) := by cases o <;> rfl
def zah (z : Zs) (k : Int) : Int := k * z.common + (((zkeys z).filter fun j => decide (j < k)).map fun j => zsz z j - z.common).sum
def spZodd : Sp := fun vs H Q _ => ∃ (a o g : Addr) (z : Zs), vs = [.ref a] ∧ ZAt H a o g z ∧ ∀ (ys : List Int) (l : Addr) (H' : Hp), ys.Perm (zkeys z) → ys.Pairwise (· ≤ ·) → Same H H' → H' l = some (.lst (ys.map V.int)) → Q (.ref l) H'
def spZsize : Sp := fun vs H Q _ => ∃ (a o g : Addr) (z : Zs) (k : Int), vs = [.ref a, .int k] ∧ ZAt H a o g z ∧ Q (.int (zsz z k)) H
def spZahead : Sp := fun vs H Q _ => ∃ (a o g : Addr) (z : Zs) (k : Int), vs = [.ref a, .int k] ∧ ZAt H a o g z ∧ ∀ H', Same H H' → Q (.int (zah z k)) H'
/-- the two models say the same -/
structure Rel (s : Sz) (z : Zs) : Prop where
  many : s.many = z.many
  common : s.common = z.common
  st : ∀ k, stM s k = zst z k
  keys : (s.odd.map (·.1)).Perm (zkeys z)
theorem Rel.sz {s : Sz} {z : Zs} (r : Rel s z) (k : Int) : szM s k = zsz z k := by
  unfold szM zsz
  rw [r.st k]
  unfold zst
  by_cases h : k ∈ z.gone
  · simp [h]
  · simp [h]
theorem perm_sum {l l' : List Int} (p : l.Perm l') : l.sum = l'.sum := by
  induction p with
  | nil => rfl
  | cons x _ ih => simp [ih]
  | swap x y l => simp only [List.sum_cons]; omega
  | trans _ _ h1 h2 => rw [h1, h2]
theorem Rel.ah {s : Sz} {z : Zs} (r : Rel s z) (k : Int) : ahM s k = zah z k := by
  unfold ahM zah
  rw [r.common]
  congr 1
  have e : (fun j => szM s j - z.common) = fun j => zsz z j - z.common := by
    funext j
    rw [r.sz j]
  rw [e]
  exact perm_sum ((r.keys.filter _).map _)
theorem sorted_eq {l l' : List Int} (p : l.Perm l') (h : l.Pairwise (· ≤ ·)) (h' : l'.Pairwise (· ≤ ·)) : l = l' := by
  refine List.Perm.eq_of_pairwise (le := fun a b => a ≤ b) ?_ h h' p
  intro a b _ _ h1 h2
  omega
def spZst (K : PySem.W.Frag) (C : Addr) : Sp := fun vs H Q _ => ∃ (p d a o g l : Addr) (s : Sz) (z : Zs) (ns : List Int), vs = [.ref p, .ref a, .ref l] ∧ SzW C H p d s ∧ ZAt H a o g z ∧ Rel s z ∧ H l = some (.lst (ns.map V.int)) ∧ ns.length ≤ 1000 ∧ (∀ n ∈ ns, Sm n) ∧ ∀ H', Same H H' → Q (.bl true) H'
def spFar : Sp := fun vs H Q _ => ∃ a : Addr, vs = [.ref a] ∧ DrawAt H a ∧ ∀ (i : Int) (H' : Hp), Sm i → (i < -1000000 ∨ 1000000 < i) → Ext a H H' → Q (.int i) H'
def spZnew : Sp := fun vs H Q _ => ∃ n c : Int, vs = [.int n, .int c] ∧ (1 ≤ n ∧ n ≤ 1000000000) ∧ (1 ≤ c ∧ c ≤ 60) ∧ ∀ (a o g : Addr) (H' : Hp), Same H H' → ZAt H' a o g ⟨n, c, [], []⟩ → H a = none → H o = none → H g = none → Q (.ref a) H'
theorem Ext.pick {a : Addr} {H H1 : Hp} (d : DrawAt H1 a) (e : ∀ b, b ≠ a → H1 b = H b) : Ext a H H1 := ⟨d, fun b o n h => by rw [e b n]; exact h⟩
/-- a caught error asked for its class -/
def rIsX (K : PySem.W.Frag) (a : Addr) (cls : Value) (d : Option Addr) : List V → Hp → VK → Prop := fun xs H Q => ∃ (D : Addr) (c : V) (cv : Value) (b : Bool), cls = .ref D ∧ d = none ∧ ExcC K D ∧ xs = [.ref a, c] ∧ (∀ u, RelV c u → u = cv) ∧ PySem.W.kitOne K (.ref D) cv = some b ∧ Q (.bl b) H
theorem call_isX {X : Cx} {a : Addr} {oe : Obj} {cls : Value} {d : Option Addr} {pn : List (Addr × Obj)} (hz : Zc cls d oe) (hf : ∃ vs, oe.data = .fields vs) : CallR (X.suite a ((a, oe) :: pn)) (.builtin "isinstance") (rIsX X.K a cls d) := by
  intro pins s σ H xs us Q I r h
  obtain ⟨D, c, cv, b, rfl, rfl, e, h1, h2, h3, q⟩ := h
  exact call_isE e hz hf pins s σ H xs us Q I r ⟨c, cv, b, h1, h2, h3, q⟩
theorem glR {X : Cx} {x : Str} {C : Addr} {pos : Pos} (hg : Gl X x) (hm : X.mg x = some (.ref C)) (hd : (x == ("__debug__" : Str)) = false := by decide) : PE X (.Name x pos) (tC (.ref C)) := pe_glob hg hm rfl hd
theorem kit_own {K : PySem.W.Frag} {D C : Addr} {b : Bool} (hne : D ≠ C) (hc : PySem.W.isClsIn K C = true) (ht : PySem.W.typeIn K (.ref C) = some (.type "type")) (hs : PySem.W.subIn K (.ref D) (.ref C) = some b) : PySem.W.kitOne K (.ref D) (.ref C) = some b := by
  have h2 : (PySem.W.clsIn K C).isSome = true := hc
  have h1 : PySem.W.kitCls K (.ref D) (.ref C) = some b := by
    show (if ((PySem.W.clsIn K C).isSome && PySem.W.typeIn K (.ref C) == some (.type "type")) = true then PySem.W.subIn K (.ref D) (.ref C) else none) = some b
    rw [h2, ht, if_pos (by simp)]
    exact hs
  unfold PySem.W.kitOne
  rw [if_neg (by simpa using hne)]
  exact h1
theorem kit_same {K : PySem.W.Frag} {D : Addr} : PySem.W.kitOne K (.ref D) (.ref D) = some true := by
  unfold PySem.W.kitOne
  rw [if_pos (by simp)]
theorem kit_tyE {K : PySem.W.Frag} {D : Addr} {T : String} {b : Bool} (hm : PySem.W.kitMeta T = true) (hs : PySem.W.subIn K (.ref D) (.type T) = some b) : PySem.W.kitOne K (.ref D) (.type T) = some b := by
  unfold PySem.W.kitOne
  rw [if_neg (by simp)]
  show (if PySem.W.kitMeta T = true then PySem.W.subIn K (.ref D) (.type T) else none) = some b
  rw [if_pos hm]
  exact hs
theorem rel_ty {T : String} : ∀ u, RelV (.ty T) u → u = .type T := fun u h => h
theorem rel_ref {C : Addr} : ∀ u, RelV (.ref C) u → u = .ref C := fun u h => h
theorem call_reprD {X : Cx} {CX : CXT} {k : Nat} {C : Addr} {ps : List Str} {sp : Sp} {E : XK} (D : Mn X.prog X.w X.K X.mg X.base CX k C "__repr__" ps sp) (hr : Room (k + 1) X.A) (hx : Passes CX X E) : CallR X (.builtin "repr") (rRepr C sp E) := by
  obtain ⟨f, fd, F, hm, b⟩ := D
  exact call_repr F hm.at_ hm.fn b hr hx
def zexc (z : Zs) (k : Int) : Ex3 := (k, (zst z k).1, (zst z k).2)
theorem Rel.exc {s : Sz} {z : Zs} (r : Rel s z) (k : Int) : exc1 s k = zexc z k := by
  unfold exc1 zexc
  rw [r.st k]
def reprZ (n c : Int) : Str := ("Sizes " : Str) ++ (toString n : String) ++ (" " : Str) ++ (toString c : String)
theorem Rel.repr {s : Sz} {z : Zs} (r : Rel s z) : reprM s = reprZ z.many z.common := by
  unfold reprM reprZ
  rw [r.many, r.common, PySem.Str.empty_append]
theorem ex_mxl : ∀ es : List Ex3, mxlAll (es.map exD) ≤ 3
  | [] => by simp [mxlAll]
  | e :: r => by
    have := ex_mxl r
    simp only [List.map_cons, mxlAll, exD, mxl, List.length_cons, List.length_nil]
    omega
theorem ex_depth : ∀ es : List Ex3, PyData.depthAll (es.map exD) ≤ 1
  | [] => by simp [PyData.depthAll]
  | e :: r => by
    have := ex_depth r
    simp only [List.map_cons, PyData.depthAll, exD, PyData.depth]
    omega
end Gs
namespace Gs
open PySem L2
/-! ### an instance made with a keyword-only argument -/
def Cn (P : Program) (w : World) (K : PySem.W.Frag) (mg : Str → Option Value) (base : Heap) (CX : CXT) (k : Nat) (C : Addr) (x : Str) (sp : Sp) : Prop :=
  ∃ (f : Addr) (fd : FuncData), FnOk P w K mg base CX k f fd ["self", "many", "common"] sp ∧ Mk K C f ∧ mg x = some (.ref C) ∧ KBn K fd ["self", "many", "common"] 2 ["common"] (fun us ws => us ++ ws) (fun vs zs => vs ++ zs)
section
variable {X : Cx} {CX : CXT} {k : Nat} {C : Addr} {sp : Sp} {x : Str} {p pos : Pos} {e : Expr} {kws : List Keyword} {t tk : TA}
theorem pe_mkD {E : XK} (D : Cn X.prog X.w X.K X.mg X.base CX k C x sp) (hr : Room (k + 1) X.A) (hg : Gl X x) (hx : Passes CX X E) (ha : PA X [e] t) (hkw : PK X kws tk)
    (hall : (backToKw pos (keywordEach kws X.env)).all (·.1.isSome) = true := by rfl) (hks : (backToKw pos (keywordEach kws X.env)).filterMap (·.1) = ([("common" : Str)] : List Str) := by rfl) (hdb : (x == ("__debug__" : Str)) = false := by decide)
    (he : starEach [e] X.env = (false, eval e X.env) :: starEach [] X.env := by rfl) (hpl : ((backTo pos (starEach [e] X.env)).any (·.1) || (backToKw pos (keywordEach kws X.env)).any (·.1.isNone)) = false := by rfl) :
    PE X (.Call (.Name x p) [e] kws pos) (tMakeK C 1 1 sp (fun vs zs => vs ++ zs) E t tk) := by
  obtain ⟨f, fd, F, M, m, b⟩ := D
  exact pe_makeK M F hr hg m b hx ha hkw hall hks hdb he hpl
def tMakeAt (C : Addr) (sp : Sp) (E : St → XK) (t tk : TA) : TE := fun σ H Q => t σ H fun vs H1 => tk σ H1 fun zs H2 => vs.length = 1 ∧ zs.length = 1 ∧ ∀ x dx, H2 x = none → H2 dx = none → dx ≠ x →
  sp ((.ref x :: vs) ++ zs) (upd (upd H2 dx (.own x)) x (.ins C dx [])) (fun v H3 => v = .non ∧ Q (.ref x) H3) (E σ)
theorem pe_mkSD {E : St → XK} (D : Cn X.prog X.w X.K X.mg X.base CX k C x sp) (hr : Room (k + 1) X.A) (hg : Gl X x) (hx : ∀ σ, PassesAt CX X σ (E σ)) (ha : PA X [e] t) (hkw : PK X kws tk)
    (hall : (backToKw pos (keywordEach kws X.env)).all (·.1.isSome) = true := by rfl) (hks : (backToKw pos (keywordEach kws X.env)).filterMap (·.1) = ([("common" : Str)] : List Str) := by rfl) (hdb : (x == ("__debug__" : Str)) = false := by decide)
    (he : starEach [e] X.env = (false, eval e X.env) :: starEach [] X.env := by rfl) (hpl : ((backTo pos (starEach [e] X.env)).any (·.1) || (backToKw pos (keywordEach kws X.env)).any (·.1.isNone)) = false := by rfl) :
    PE X (.Call (.Name x p) [e] kws pos) (tMakeAt C sp E t tk) := by
  obtain ⟨f, fd, F, M, m, hb⟩ := D
  refine ⟨fun pins s σ H Q I h => wpAny_Call_Name_kw (ld_glob I hg m (PySem.W.callWith_KW (h₀ := X.base) I.ok.mod.kin M.kp hall (thn (ha.run pos pins s σ H _ I h) fun us s1 hh => ?_) hpl he) hdb)⟩
  obtain ⟨vs, H1, I1, r, q⟩ := hh
  refine thn (hkw.run pos pins s1 σ H1 _ I1 q) fun ws s2 hh => ?_
  obtain ⟨zs, H2, I2, rz, l1, l2, q2⟩ := hh
  refine ⟨I2.kIn, ?_⟩
  rw [hks]
  obtain ⟨y, ey⟩ : ∃ y, y = s2.heap.objs.size := ⟨_, rfl⟩
  have hq := q2 (y + 1) y (I2.hok.fresh (by omega)) (I2.hok.fresh (by omega)) (Nat.ne_of_lt (Nat.lt_succ_self y))
  subst ey
  have J := Inv.made (C := C) I2
  have n1 : (Value.ref (s2.heap.objs.size + 1) :: us).length = 2 := by rw [List.length_cons, ← r.length, l1]
  have n2 : ws.length = 1 := by rw [← rz.length, l2]
  have b2 := hb.to _ (Value.ref (s2.heap.objs.size + 1) :: us) ws J.kIn n1 n2
  have r2 : Vals ((V.ref (s2.heap.objs.size + 1) :: vs) ++ zs) ((Value.ref (s2.heap.objs.size + 1) :: us) ++ ws) := Vals.append (.cons rfl r) rz
  refine wpAny_call (make_map (f := f) I2.kIn M.makes M.init (beq_iff_eq.mp M.fn) (codeAny_mono (F.run _ X.stack _ _ ⟨_, ([("common" : Str)] : List Str).zip ws⟩ _ _ _ (E σ) (hr.make C us _) (J.env0.make C us _) b2 r2 hq) fun rr s' hq' => ?_))
  cases rr with
  | error e => exact hx σ pins _ _ e s' J hq'
  | ok fl =>
    cases fl with
    | ret u =>
      obtain ⟨v, H', I3, rv, ev, q3⟩ := J.after hq'
      subst ev
      exact ⟨rv, V.ref _, H', I3, rfl, q3⟩
    | next => exact False.elim hq'
    | brk => exact False.elim hq'
    | cont => exact False.elim hq'
end
end Gs
namespace Gs
open PySem L2
def Cn1 (P : Program) (w : World) (K : PySem.W.Frag) (mg : Str → Option Value) (base : Heap) (CX : CXT) (k : Nat) (C : Addr) (x : Str) (sp : Sp) : Prop :=
  ∃ (f : Addr) (fd : FuncData) (ds : List Value), FnOk P w K mg base CX k f fd ["self", "many", "common"] sp ∧ Mk K C f ∧ mg x = some (.ref C) ∧ Vals [.int 1] ds ∧ Binds K fd ["self", "many", "common"] ds
theorem pe_mk1D {X : Cx} {CX : CXT} {k : Nat} {C : Addr} {sp : Sp} {x : Str} {p pos : Pos} {e : Expr} {t : TA} {E : XK} (D : Cn1 X.prog X.w X.K X.mg X.base CX k C x sp) (hr : Room (k + 1) X.A) (hg : Gl X x) (hx : Passes CX X E) (ha : PA X [e] t) (hdb : (x == ("__debug__" : Str)) = false := by decide)
    (he : starEach [e] X.env = (false, eval e X.env) :: starEach [] X.env := by rfl) (hpl : (backTo pos (starEach [] X.env)).any (·.1) = false := by rfl) : PE X (.Call (.Name x p) [e] [] pos) (tMake C sp [.int 1] E t) := by
  obtain ⟨f, fd, ds, F, M, m, v, b⟩ := D
  exact pe_make M F hr hg m b v hx ha hdb he hpl
def EqR0 (C : Addr) (a b : Addr) (H : Hp) : Prop := ∃ d e n c, SzW C H a d ⟨n, c, []⟩ ∧ SzW C H b e ⟨n, c, []⟩
theorem op_eqOwn {X : Cx} {CX : CXT} {k : Nat} {C : Addr} {ps : List Str} {R : Addr → Addr → Hp → Prop} {E : XK} (D : Mn X.prog X.w X.K X.mg X.base CX k C "__eq__" ps (spEq R)) (hr : Room k X.A) (hx : Passes CX X E) : OpR X (compareOp .Eq) (rEqG (DIns C R)) := by
  obtain ⟨f, fd, F, hm, b⟩ := D
  exact op_eqG (rcG_ins F hm.at_ hm.fn b hx) hr
theorem new2 {H : Hp} {x dx : Addr} (hx : H x = none) (hd : H dx = none) (ne : dx ≠ x) (o u : HO) : Same H (upd (upd H dx o) x u) := fun b v q => by
  rw [upd_ne (ne_of_none q hx), upd_ne (ne_of_none q hd)]
  exact q
def goodS (n c : Int) : Prop := (1 ≤ n ∧ n ≤ 1000000) ∧ (1 ≤ c ∧ c ≤ 60)
def spMade (C : Addr) : Sp := fun vs H Q _ => ∃ n c : Int, vs = [.int n, .int c] ∧ Sm n ∧ Sm c ∧ (goodS n c → ∀ (p d : Addr) (H' : Hp), Same H H' → SzW C H' p d ⟨n, c, []⟩ → Q (.ref p) H') ∧
  (¬ goodS n c → ∀ (l : Addr) (H' : Hp), Same H H' → H' l = some (.lst [.bl (!decide (1 ≤ n ∧ n ≤ 1000000)), .bl (decide (1 ≤ n ∧ n ≤ 1000000)), .bl true]) → Q (.ref l) H')
def spRef (C : Addr) : Sp := fun vs H Q _ => ∃ (p d : Addr) (z : Sz) (i way : Int), vs = [.ref p, .int i, .int way] ∧ SzW C H p d z ∧ Sm i ∧ (0 ≤ way ∧ way < 4) ∧ (way = 3 → ¬ (0 ≤ i ∧ i ≤ z.many)) ∧ (way ≠ 3 → ¬ inR z i) ∧ ∀ H', Same H H' → Q (.bl true) H'
theorem merge_zL (n c : Int) (o g : Addr) : mergeK [] (zL n c o g) = zL n c o g := by
  simp [mergeK, zL, putK, nz1, nz2, nz3, nz4, nz5, nz6]
end Gs

set_option Elab.async false
set_option linter.all false
set_option maxRecDepth 100000
set_option maxHeartbeats 4000000
namespace Gs
open PySem L2
/-! ### what is kept of a thing -/
def dropO (odd : List OddE) (i : Int) : List OddE := odd.filter fun e => decide (e.1 ≠ i)
def putO (odd : List OddE) (i : Int) (x : Int × Bool) : List OddE := if (odd.any fun e => decide (e.1 = i)) = true then odd.map (fun e => if e.1 = i then (e.1, x) else e) else odd ++ [(i, x)]
theorem inl_eq {a b : Int} : ((Sum.inl a : Key) = Sum.inl b) ↔ a = b := ⟨fun h => by injection h, fun h => by rw [h]⟩
theorem OddAt.drop {H : Hp} (i : Int) : ∀ {kvs : List (Key × V)} {odd : List OddE}, OddAt H kvs odd → OddAt H (dropK kvs (Sum.inl i)) (dropO odd i)
  | _, _, .nil => .nil
  | (k, v) :: kvs, e :: odd, .cons ⟨h1, t, h2, h3⟩ r => by
    have ih := OddAt.drop i r
    simp only at h1
    subst h1
    unfold dropK dropO at *
    by_cases h : e.1 = i
    · rw [List.filter_cons_of_neg (by simp [h]), List.filter_cons_of_neg (by simp [h])]
      exact ih
    · rw [List.filter_cons_of_pos (by simp [h]), List.filter_cons_of_pos (by simp [h])]
      exact .cons ⟨rfl, t, h2, h3⟩ ih
theorem OddAt.any {H : Hp} (i : Int) : ∀ {kvs : List (Key × V)} {odd : List OddE}, OddAt H kvs odd → (kvs.any fun kv => decide (kv.1 = Sum.inl i)) = odd.any fun e => decide (e.1 = i)
  | _, _, .nil => rfl
  | (k, v) :: kvs, e :: odd, .cons ⟨h1, _⟩ r => by
    simp only at h1
    subst h1
    rw [List.any_cons, List.any_cons, OddAt.any i r]
    congr 1
    exact decide_eq_decide.mpr inl_eq
theorem OddAt.mapped {H : Hp} (i : Int) {t : Addr} {x : Int × Bool} (ht : H t = some (.tup [.int x.1, .bl x.2])) : ∀ {kvs : List (Key × V)} {odd : List OddE}, OddAt H kvs odd → OddAt H (kvs.map fun kv => if kv.1 = Sum.inl i then (kv.1, .ref t) else kv) (odd.map fun e => if e.1 = i then (e.1, x) else e)
  | _, _, .nil => .nil
  | (k, v) :: kvs, e :: odd, .cons ⟨h1, u, h2, h3⟩ r => by
    simp only at h1
    subst h1
    rw [List.map_cons, List.map_cons]
    by_cases h : e.1 = i
    · rw [if_pos h, if_pos (inl_eq.mpr h)]
      exact .cons ⟨rfl, t, rfl, ht⟩ (OddAt.mapped i ht r)
    · rw [if_neg h, if_neg (fun z => h (inl_eq.mp z))]
      exact .cons ⟨rfl, u, h2, h3⟩ (OddAt.mapped i ht r)
theorem OddAt.snoc {H : Hp} {t : Addr} {i : Int} {x : Int × Bool} (ht : H t = some (.tup [.int x.1, .bl x.2])) : ∀ {kvs : List (Key × V)} {odd : List OddE}, OddAt H kvs odd → OddAt H (kvs ++ [(Sum.inl i, .ref t)]) (odd ++ [(i, x)])
  | _, _, .nil => .cons ⟨rfl, t, rfl, ht⟩ .nil
  | _, _, .cons a r => .cons a (OddAt.snoc ht r)
theorem OddAt.put {H : Hp} {t : Addr} {i : Int} {x : Int × Bool} (ht : H t = some (.tup [.int x.1, .bl x.2])) {kvs : List (Key × V)} {odd : List OddE} (h : OddAt H kvs odd) : OddAt H (putK kvs (Sum.inl i) (.ref t)) (putO odd i x) := by
  unfold putK putO
  rw [h.any i]
  by_cases c : (odd.any fun e => decide (e.1 = i)) = true
  · rw [if_pos c, if_pos c]
    exact h.mapped i ht
  · rw [if_neg c, if_neg c]
    exact h.snoc ht
/-! ### what a look finds behind it -/
theorem look_cons (e : OddE) (r : List OddE) (k : Int) : look (e :: r) k = if e.1 = k then some e.2 else look r k := by
  by_cases h : e.1 = k
  · simp [look, h]
  · simp [look, h]
theorem look_append (a b : List OddE) (k : Int) : look (a ++ b) k = (look a k).or (look b k) := by
  induction a with
  | nil => simp [look]
  | cons e r ih =>
    rw [List.cons_append, look_cons, look_cons, ih]
    by_cases h : e.1 = k
    · simp [h]
    · simp [h]
theorem look_drop (odd : List OddE) (i k : Int) : look (dropO odd i) k = if k = i then none else look odd k := by
  induction odd with
  | nil => simp [dropO, look]
  | cons e r ih =>
    unfold dropO at *
    by_cases h : e.1 = i
    · rw [List.filter_cons_of_neg (by simp [h]), ih, look_cons]
      by_cases hk : k = i
      · simp [hk]
      · have : ¬ e.1 = k := fun z => hk (by omega)
        simp [hk, this]
    · rw [List.filter_cons_of_pos (by simp [h]), look_cons, look_cons, ih]
      by_cases hk : e.1 = k
      · have : ¬ k = i := fun z => h (by omega)
        simp [hk, this]
      · simp [hk]
theorem look_mapped (odd : List OddE) (i k : Int) (x : Int × Bool) : look (odd.map fun e => if e.1 = i then (e.1, x) else e) k = (look odd k).map fun y => if k = i then x else y := by
  induction odd with
  | nil => simp [look]
  | cons e r ih =>
    rw [List.map_cons, look_cons, look_cons, ih]
    by_cases h : e.1 = i
    · rw [if_pos h]
      by_cases hk : e.1 = k
      · have : k = i := by omega
        simp [hk, this]
      · simp [hk]
    · rw [if_neg h]
      by_cases hk : e.1 = k
      · have : ¬ k = i := by omega
        simp [hk, this]
      · simp [hk]
theorem look_any (odd : List OddE) (i : Int) : (odd.any fun e => decide (e.1 = i)) = (look odd i).isSome := by
  induction odd with
  | nil => rfl
  | cons e r ih =>
    rw [List.any_cons, look_cons, ih]
    by_cases h : e.1 = i
    · simp [h]
    · simp [h]
theorem look_put (odd : List OddE) (i k : Int) (x : Int × Bool) : look (putO odd i x) k = if k = i then some x else look odd k := by
  unfold putO
  rw [look_any]
  by_cases c : (look odd i).isSome = true
  · rw [if_pos c, look_mapped]
    by_cases h : k = i
    · subst h
      rw [if_pos rfl]
      obtain ⟨y, e⟩ := Option.isSome_iff_exists.mp c
      rw [e]
      simp
    · simp [h]
  · rw [if_neg c, look_append]
    have c' : look odd i = none := by simpa using c
    by_cases h : k = i
    · subst h
      rw [c']
      simp [look]
    · have : look [(i, x)] k = none := by simp [look]; omega
      rw [this]
      simp [h]
theorem look_mem {odd : List OddE} {i : Int} {x : Int × Bool} (h : look odd i = some x) : (i, x) ∈ odd := by
  induction odd with
  | nil => cases h
  | cons e r ih =>
    rw [look_cons] at h
    by_cases c : e.1 = i
    · rw [if_pos c] at h
      have := Option.some.inj h
      subst this
      rw [← c]
      exact List.mem_cons_self
    · rw [if_neg c] at h
      exact List.mem_cons_of_mem _ (ih h)
theorem look_key {odd : List OddE} {i : Int} : i ∈ odd.map (·.1) ↔ (look odd i).isSome = true := by
  rw [← look_any, List.any_eq_true]
  simp only [List.mem_map, decide_eq_true_eq]
theorem look_of {odd : List OddE} (nd : (odd.map (·.1)).Nodup) {e : OddE} (h : e ∈ odd) : look odd e.1 = some e.2 := by
  induction odd with
  | nil => cases h
  | cons f r ih =>
    rw [List.map_cons, List.nodup_cons] at nd
    rw [look_cons]
    rcases List.mem_cons.mp h with rfl | h
    · rw [if_pos rfl]
    · have : ¬ f.1 = e.1 := fun z => nd.1 (by rw [z]; exact List.mem_map_of_mem h)
      rw [if_neg this]
      exact ih nd.2 h
def keepM (z : Sz) (i own : Int) (hid : Bool) : Sz := ⟨z.many, z.common, if own = z.common ∧ hid = false then dropO z.odd i else putO z.odd i (own, hid)⟩
def fullM (z : Sz) (i own : Int) (hid : Bool) : Prop := ¬ (own = z.common ∧ hid = false) ∧ look z.odd i = none ∧ 60 ≤ z.odd.length
theorem keep_st {z : Sz} {i own : Int} {hid : Bool} (k : Int) : stM (keepM z i own hid) k = if k = i then (own, hid) else stM z k := by
  unfold stM keepM
  by_cases c : own = z.common ∧ hid = false
  · simp only [if_pos c]
    rw [look_drop]
    by_cases h : k = i
    · simp [h, c.1, c.2]
    · simp [h]
  · simp only [if_neg c]
    rw [look_put]
    by_cases h : k = i
    · simp [h]
    · simp [h]
theorem nodup_filter {α : Type} {p : α → Bool} {l : List α} (h : l.Nodup) : (l.filter p).Nodup := List.Pairwise.filter p h
theorem map_filter_key (odd : List OddE) (i : Int) : (dropO odd i).map (·.1) = (odd.map (·.1)).filter fun k => decide (k ≠ i) := by
  unfold dropO
  rw [List.filter_map]
  rfl
theorem map_mapped_key (odd : List OddE) (i : Int) (x : Int × Bool) : (odd.map fun e => if e.1 = i then (e.1, x) else e).map (·.1) = odd.map (·.1) := by
  rw [List.map_map]
  refine List.map_congr_left fun e _ => ?_
  show (if e.1 = i then (e.1, x) else e).1 = e.1
  by_cases h : e.1 = i
  · rw [if_pos h]
  · rw [if_neg h]
theorem putO_len (odd : List OddE) (i : Int) (x : Int × Bool) : (putO odd i x).length ≤ odd.length + 1 := by
  unfold putO
  split
  · rw [List.length_map]; omega
  · rw [List.length_append]; exact Nat.le_refl _
theorem keep_len (z : Sz) (i own : Int) (hid : Bool) : (keepM z i own hid).odd.length ≤ z.odd.length + 1 := by
  unfold keepM
  by_cases c : own = z.common ∧ hid = false
  · simp only [if_pos c]
    exact Nat.le_succ_of_le (List.length_filter_le _ _)
  · simp only [if_neg c]
    exact putO_len _ _ _
theorem keep_wf {z : Sz} {i own : Int} {hid : Bool} (W : Wf z) (hi : inR z i) (h0 : 1 ≤ own) (h1 : own ≤ 60) (nf : ¬ fullM z i own hid) : Wf (keepM z i own hid) := by
  obtain ⟨m0, m1, c0, c1, nd, le, ok⟩ := W
  by_cases c : own = z.common ∧ hid = false
  · have e : keepM z i own hid = ⟨z.many, z.common, dropO z.odd i⟩ := by unfold keepM; simp only [if_pos c]
    rw [e]
    refine ⟨m0, m1, c0, c1, ?_, ?_, ?_⟩
    · show ((dropO z.odd i).map (·.1)).Nodup
      rw [map_filter_key]
      exact nodup_filter nd
    · exact Nat.le_trans (List.length_filter_le _ _) le
    · intro e he
      exact ok e (List.mem_filter.mp he).1
  · have e : keepM z i own hid = ⟨z.many, z.common, putO z.odd i (own, hid)⟩ := by unfold keepM; simp only [if_neg c]
    rw [e]
    have good : own ≠ z.common ∨ hid = true := by
      by_cases q : own = z.common
      · right
        cases hid
        · exact absurd ⟨q, rfl⟩ c
        · rfl
      · exact .inl q
    by_cases a : (z.odd.any fun e => decide (e.1 = i)) = true
    · have e2 : putO z.odd i (own, hid) = z.odd.map fun e => if e.1 = i then (e.1, (own, hid)) else e := by unfold putO; rw [if_pos a]
      rw [e2]
      refine ⟨m0, m1, c0, c1, ?_, ?_, ?_⟩
      · show ((z.odd.map fun e => if e.1 = i then (e.1, (own, hid)) else e).map (·.1)).Nodup
        rw [map_mapped_key]
        exact nd
      · show (z.odd.map _).length ≤ 60
        rw [List.length_map]
        exact le
      · intro e he
        obtain ⟨e', he', rfl⟩ := List.mem_map.mp he
        have := ok e' he'
        by_cases q : e'.1 = i
        · rw [if_pos q]
          exact ⟨this.1, this.2.1, h0, h1, good⟩
        · rw [if_neg q]
          exact this
    · have e2 : putO z.odd i (own, hid) = z.odd ++ [(i, (own, hid))] := by unfold putO; rw [if_neg a]
      rw [e2]
      rw [look_any] at a
      have a' : look z.odd i = none := by simpa using a
      refine ⟨m0, m1, c0, c1, ?_, ?_, ?_⟩
      · show ((z.odd ++ [(i, (own, hid))]).map (·.1)).Nodup
        rw [List.map_append, List.nodup_append]
        refine ⟨nd, by simp, ?_⟩
        intro k hk b hb e
        simp at hb
        rw [e, hb, look_key, a'] at hk
        cases hk
      · show (z.odd ++ [(i, (own, hid))]).length ≤ 60
        rw [List.length_append]
        have : ¬ 60 ≤ z.odd.length := fun q => nf ⟨c, a', q⟩
        show z.odd.length + 1 ≤ 60
        omega
      · intro e he
        rcases List.mem_append.mp he with he | he
        · exact ok e he
        · simp at he
          rw [he]
          exact ⟨hi.1, hi.2, h0, h1, good⟩
/-- all but the thing at d is as it was -/
def Frm (d : Addr) (H H' : Hp) : Prop := ∀ b o, b ≠ d → H b = some o → H' b = some o
theorem Frm.of {d : Addr} {H H' : Hp} (s : Same H H') : Frm d H H' := fun b o _ h => s b o h
theorem Frm.trans {d : Addr} {H H1 H2 : Hp} (a : Frm d H H1) (b : Frm d H1 H2) : Frm d H H2 := fun c o n h => b c o n (a c o n h)
theorem Frm.upd {d : Addr} {H : Hp} (o : HO) : Frm d H (L2.upd H d o) := fun b v n h => by rw [upd_ne n]; exact h
theorem upd_self {H : Hp} {a : Addr} {o : HO} (h : H a = some o) : upd H a o = H := by
  funext b
  by_cases e : b = a
  · subst e
    rw [upd_same, h]
  · rw [upd_ne e]
theorem dropK_none {kvs : List (Key × V)} {k : Key} (h : valV kvs k = none) : dropK kvs k = kvs := by
  unfold dropK
  rw [List.filter_eq_self]
  intro kv hk
  have h2 : (kvs.any fun kv => decide (kv.1 = k)) = false := by rw [valV_any, h]; rfl
  rw [List.any_eq_false] at h2
  have := h2 kv hk
  simpa using this
theorem sameU {H H' : Hp} (s : Same H H') {x : Addr} (h : H x = none) (o : HO) : Same H (upd H' x o) := fun b v q => by rw [upd_ne (ne_of_none q h)]; exact s b v q
/-- d.pop(k, x): in both cases what is left -/
theorem pop_both {H : Hp} {a : Addr} {kvs : List (Key × V)} {k : Key} {z : V} {Q : V → Hp → Prop} (h : H a = some (.dK kvs)) (q : ∀ v, Q v (upd H a (.dK (dropK kvs k)))) : (∀ v, valV kvs k = some v → Q v (upd H a (.dK (dropK kvs k)))) ∧ (valV kvs k = none → Q z H) := by
  refine ⟨fun v _ => q v, fun e => ?_⟩
  have := q z
  rw [dropK_none e, upd_self h] at this
  exact this
def spKeep (C cF : Addr) : Sp := fun vs H Q E => ∃ (p d : Addr) (z : Sz) (i own : Int) (hid : Bool), vs = [.ref p, .int i, .int own, .bl hid] ∧ SzW C H p d z ∧ inR z i ∧ 1 ≤ own ∧ own ≤ 60 ∧
  (¬ fullM z i own hid → ∀ H', Frm d H H' → SzW C H' p d (keepM z i own hid) → Q .non H') ∧ (fullM z i own hid → E (.ref cF) none H)
def spGive (C cN cS cF : Addr) : Sp := fun vs H Q E => ∃ (p d : Addr) (z : Sz) (i size : Int), vs = [.ref p, .int i, .int size] ∧ SzW C H p d z ∧ Sm i ∧ Sm size ∧
  (inR z i → 1 ≤ size → size ≤ 60 → ¬ fullM z i size (stM z i).2 → ∀ H', Frm d H H' → SzW C H' p d (keepM z i size (stM z i).2) → Q .non H') ∧ (¬ inR z i → E (.ref cN) none H) ∧
  (inR z i → ¬ (1 ≤ size ∧ size ≤ 60) → ∀ H', Same H H' → E (.ref cS) none H') ∧ (inR z i → 1 ≤ size → size ≤ 60 → fullM z i size (stM z i).2 → ∀ H', Same H H' → E (.ref cF) none H')
/-- hide, show, plain -/
def spTo (C cN cF : Addr) (g : Sz → Int → Int × Bool) : Sp := fun vs H Q E => ∃ (p d : Addr) (z : Sz) (i : Int), vs = [.ref p, .int i] ∧ SzW C H p d z ∧ Sm i ∧
  (inR z i → ¬ fullM z i (g z i).1 (g z i).2 → ∀ H', Frm d H H' → SzW C H' p d (keepM z i (g z i).1 (g z i).2) → Q .non H') ∧ (¬ inR z i → E (.ref cN) none H) ∧
  (inR z i → fullM z i (g z i).1 (g z i).2 → ∀ H', Same H H' → E (.ref cF) none H')
abbrev gHide : Sz → Int → Int × Bool := fun z i => ((stM z i).1, true)
abbrev gShow : Sz → Int → Int × Bool := fun z i => ((stM z i).1, false)
abbrev gPlain : Sz → Int → Int × Bool := fun z i => (z.common, (stM z i).2)
theorem st_range {z : Sz} (W : Wf z) (i : Int) : 1 ≤ (stM z i).1 ∧ (stM z i).1 ≤ 60 := by
  have e : stM z i = (look z.odd i).getD (z.common, false) := rfl
  cases h : look z.odd i with
  | none => rw [e, h]; exact ⟨W.c0, W.c1⟩
  | some x => rw [e, h]; exact ⟨(W.ok _ (look_mem h)).2.2.1, (W.ok _ (look_mem h)).2.2.2.1⟩
theorem SzW.frm {C : Addr} {H H' : Hp} {p d e : Addr} {z : Sz} (S : SzW C H p d z) (n1 : p ≠ e) (n2 : d ≠ e) (he : ∀ t xs, H t = some (.tup xs) → t ≠ e) (f : Frm e H H') : SzW C H' p d z := by
  obtain ⟨dx, kvs, h1, h2, h3, W⟩ := S
  exact ⟨dx, kvs, f _ _ n1 h1, f _ _ n2 h2, h3.mono fun t xs q => f _ _ (he t xs q) q, W⟩
/-! ### the law's own dict, changed -/
structure Zw (z : Zs) : Prop where
  nd : (z.own.map (·.1)).Nodup
  ne : ∀ e ∈ z.own, e.2 ≠ z.common
  ng : z.gone.Nodup
def zwithM (z : Zs) (k size : Int) (hid : Bool) : Zs := ⟨z.many, z.common, (z.own.filter fun e => decide (e.1 ≠ k)) ++ (if size ≠ z.common then [(k, size)] else []), (z.gone.filter fun j => decide (j ≠ k)) ++ (if hid = true then [k] else [])⟩
theorem zown_cons (e : Int × Int) (r : List (Int × Int)) (k : Int) : zown (e :: r) k = if e.1 = k then some e.2 else zown r k := by
  by_cases h : e.1 = k
  · simp [zown, h]
  · simp [zown, h]
theorem zown_append (a b : List (Int × Int)) (k : Int) : zown (a ++ b) k = (zown a k).or (zown b k) := by
  induction a with
  | nil => simp [zown]
  | cons e r ih =>
    rw [List.cons_append, zown_cons, zown_cons, ih]
    by_cases h : e.1 = k
    · simp [h]
    · simp [h]
theorem zown_drop (own : List (Int × Int)) (i k : Int) : zown (own.filter fun e => decide (e.1 ≠ i)) k = if k = i then none else zown own k := by
  induction own with
  | nil => simp [zown]
  | cons e r ih =>
    by_cases h : e.1 = i
    · rw [List.filter_cons_of_neg (by simp [h]), ih, zown_cons]
      by_cases hk : k = i
      · simp [hk]
      · have : ¬ e.1 = k := fun z => hk (by omega)
        simp [hk, this]
    · rw [List.filter_cons_of_pos (by simp [h]), zown_cons, zown_cons, ih]
      by_cases hk : e.1 = k
      · have : ¬ k = i := fun z => h (by omega)
        simp [hk, this]
      · simp [hk]
theorem zown_key {own : List (Int × Int)} {i : Int} : i ∈ own.map (·.1) ↔ (zown own i).isSome = true := by
  induction own with
  | nil => simp [zown]
  | cons e r ih =>
    rw [List.map_cons, List.mem_cons, zown_cons, ih]
    by_cases h : e.1 = i
    · simp [h]
    · have : ¬ i = e.1 := fun z => h z.symm
      simp [h, this]
theorem zown_mem {own : List (Int × Int)} {i x : Int} (h : zown own i = some x) : (i, x) ∈ own := by
  induction own with
  | nil => cases h
  | cons e r ih =>
    rw [zown_cons] at h
    by_cases c : e.1 = i
    · rw [if_pos c] at h
      have := Option.some.inj h
      subst this
      rw [← c]
      exact List.mem_cons_self
    · rw [if_neg c] at h
      exact List.mem_cons_of_mem _ (ih h)
theorem zwith_st1 (z : Zs) (k size : Int) (hid : Bool) (j : Int) : (zown (zwithM z k size hid).own j).getD z.common = if j = k then size else (zown z.own j).getD z.common := by
  show (zown ((z.own.filter fun e => decide (e.1 ≠ k)) ++ (if size ≠ z.common then [(k, size)] else [])) j).getD z.common = _
  rw [zown_append, zown_drop]
  by_cases h : j = k
  · subst h
    by_cases c : size = z.common
    · simp [c, zown]
    · simp [c, zown]
  · have h1 : zown (if size ≠ z.common then [(k, size)] else []) j = none := by
      by_cases c : size = z.common
      · simp [c, zown]
      · simp [c, zown]; omega
    rw [h1, Option.or_none, if_neg h, if_neg h]
theorem zwith_st2 (z : Zs) (k size : Int) (hid : Bool) (j : Int) : j ∈ (zwithM z k size hid).gone ↔ if j = k then hid = true else j ∈ z.gone := by
  show j ∈ ((z.gone.filter fun i => decide (i ≠ k)) ++ (if hid = true then [k] else [])) ↔ _
  rw [List.mem_append, List.mem_filter]
  by_cases h : j = k
  · subst h
    cases hid <;> simp
  · cases hid <;> simp [h]
theorem zwith_st (z : Zs) (k size : Int) (hid : Bool) (j : Int) : zst (zwithM z k size hid) j = if j = k then (size, hid) else zst z j := by
  have h1 : (zst (zwithM z k size hid) j).1 = if j = k then size else (zown z.own j).getD z.common := zwith_st1 z k size hid j
  have h2 : (zst (zwithM z k size hid) j).2 = decide (if j = k then hid = true else j ∈ z.gone) := decide_eq_decide.mpr (zwith_st2 z k size hid j)
  refine Prod.ext ?_ ?_
  · rw [h1]
    by_cases h : j = k
    · simp [h]
    · simp [h, zst]
  · rw [h2]
    by_cases h : j = k
    · simp [h]
    · simp [h, zst]
theorem zwith_w {z : Zs} (w : Zw z) (k size : Int) (hid : Bool) : Zw (zwithM z k size hid) := by
  refine ⟨?_, ?_, ?_⟩
  · show (((z.own.filter fun e => decide (e.1 ≠ k)) ++ (if size ≠ z.common then [(k, size)] else [])).map (·.1)).Nodup
    rw [List.map_append, List.nodup_append]
    refine ⟨?_, ?_, ?_⟩
    · have e : (z.own.filter fun e => decide (e.1 ≠ k)).map (·.1) = (z.own.map (·.1)).filter fun j => decide (j ≠ k) := by
        rw [List.filter_map]
        rfl
      rw [e]
      exact nodup_filter w.nd
    · split <;> simp
    · intro a ha b hb e
      obtain ⟨x, hx, rfl⟩ := List.mem_map.mp ha
      have h1 := (List.mem_filter.mp hx).2
      have h1' : x.1 ≠ k := of_decide_eq_true h1
      split at hb
      · simp at hb
        exact h1' (by rw [e, hb])
      · simp at hb
  · intro e he
    rcases List.mem_append.mp he with he | he
    · exact w.ne e (List.mem_filter.mp he).1
    · split at he
      · simp at he
        rw [he]
        assumption
      · simp at he
  · show ((z.gone.filter fun j => decide (j ≠ k)) ++ (if hid = true then [k] else [])).Nodup
    rw [List.nodup_append]
    refine ⟨nodup_filter w.ng, ?_, ?_⟩
    · split <;> simp
    · intro a ha b hb e
      have h1 : a ≠ k := of_decide_eq_true (List.mem_filter.mp ha).2
      split at hb
      · simp at hb
        exact h1 (by rw [e, hb])
      · simp at hb
theorem zkeys_nd {z : Zs} (w : Zw z) : (zkeys z).Nodup := by
  unfold zkeys
  rw [List.nodup_append]
  refine ⟨w.nd, nodup_filter w.ng, ?_⟩
  intro a ha b hb e
  have h1 := (List.mem_filter.mp hb).2
  rw [← e, zown_key.mp ha] at h1
  cases h1
theorem zkeys_mem {z : Zs} (w : Zw z) (k : Int) : k ∈ zkeys z ↔ zst z k ≠ (z.common, false) := by
  unfold zkeys
  rw [List.mem_append, List.mem_filter, zown_key]
  unfold zst
  cases h : zown z.own k with
  | none =>
    by_cases g : k ∈ z.gone
    · simp [g]
    · simp [g]
  | some x =>
    have := w.ne _ (zown_mem h)
    simp
    intro e
    exact absurd e this
theorem keys_mem {s : Sz} (W : Wf s) (k : Int) : k ∈ s.odd.map (·.1) ↔ stM s k ≠ (s.common, false) := by
  rw [look_key]
  unfold stM
  cases h : look s.odd k with
  | none => simp
  | some x =>
    have := (W.ok _ (look_mem h)).2.2.2.2
    simp
    intro e
    rw [e] at this
    rcases this with q | q
    · exact q rfl
    · cases q
theorem rel_mk {s : Sz} {z : Zs} (W : Wf s) (w : Zw z) (h1 : s.many = z.many) (h2 : s.common = z.common) (h3 : ∀ k, stM s k = zst z k) : Rel s z := by
  refine ⟨h1, h2, h3, (List.perm_ext_iff_of_nodup W.nd (zkeys_nd w)).mpr fun k => ?_⟩
  rw [keys_mem W, zkeys_mem w, h3 k, h2]
theorem zok_of {s : Sz} {z : Zs} (W : Wf s) (w : Zw z) (R : Rel s z) : Zok z := by
  have l := R.keys.length_eq
  rw [List.length_map] at l
  have le := W.le
  have lk : (zkeys z).length = z.own.length + (z.gone.filter fun k => !(zown z.own k).isSome).length := by
    unfold zkeys
    rw [List.length_append, List.length_map]
  have sub : ∀ k ∈ z.gone, k ∈ zkeys z := fun k hk => by
    rw [zkeys_mem w]
    unfold zst
    simp [hk]
  have lg : z.gone.length ≤ (zkeys z).length := by
    have p : z.gone.Perm ((zkeys z).filter fun k => decide (k ∈ z.gone)) := by
      refine (List.perm_ext_iff_of_nodup w.ng (nodup_filter (zkeys_nd w))).mpr fun k => ?_
      rw [List.mem_filter]
      exact ⟨fun h => ⟨sub k h, decide_eq_true h⟩, fun h => of_decide_eq_true h.2⟩
    rw [p.length_eq]
    exact List.length_filter_le _ _
  refine ⟨by rw [← R.many]; exact W.m0, by rw [← R.many]; exact W.m1, by rw [← R.common]; exact W.c0, by rw [← R.common]; exact W.c1, by omega, by omega, by omega, fun k hk => ?_⟩
  obtain ⟨e, he, ek⟩ := List.mem_map.mp (R.keys.mem_iff.mpr hk)
  have := W.ok e he
  rw [← R.many, ← ek]
  exact ⟨this.1, this.2.1⟩
/-- the dict and its two, with no word of what is in them -/
structure ZH (H : Hp) (a o g : Addr) (z : Zs) : Prop where
  ha : H a = some (.dK (zL z.many z.common o g))
  ho : H o = some (.dK (ownK z.own))
  hg : H g = some (.dK (goneK z.gone))
  ao : a ≠ o
  ag : a ≠ g
  og : o ≠ g
def spZwith : Sp := fun vs H Q _ => ∃ (a o g : Addr) (z : Zs) (k size : Int) (hid : Bool), vs = [.ref a, .int k, .int size, .bl hid] ∧ ZAt H a o g z ∧
  ∀ (a' o' g' : Addr) (H' : Hp), Same H H' → ZH H' a' o' g' (zwithM z k size hid) → H a' = none → H o' = none → H g' = none → Q (.ref a') H'
def spZset : Sp := fun vs H Q _ => ∃ (a o g : Addr) (z : Zs) (k size : Int), vs = [.ref a, .int k, .int size] ∧ ZAt H a o g z ∧
  ∀ (a' o' g' : Addr) (H' : Hp), Same H H' → ZH H' a' o' g' (zwithM z k size (zst z k).2) → H a' = none → H o' = none → H g' = none → Q (.ref a') H'
def spZhide : Sp := fun vs H Q _ => ∃ (a o g : Addr) (z : Zs) (k : Int) (hid : Bool), vs = [.ref a, .int k, .bl hid] ∧ ZAt H a o g z ∧
  ∀ (a' o' g' : Addr) (H' : Hp), Same H H' → ZH H' a' o' g' (zwithM z k (zst z k).1 hid) → H a' = none → H o' = none → H g' = none → Q (.ref a') H'
theorem putK_drop (kvs : List (Key × V)) (k : Key) (v : V) : putK (dropK kvs k) k v = dropK kvs k ++ [(k, v)] := by
  unfold putK
  rw [if_neg]
  intro c
  rw [List.any_eq_true] at c
  obtain ⟨x, hx, e⟩ := c
  have := (List.mem_filter.mp hx).2
  have e' : x.1 = k := of_decide_eq_true e
  exact (of_decide_eq_true this) e'
theorem drop_ownK (own : List (Int × Int)) (k : Int) : dropK (ownK own) (Sum.inl k) = ownK (own.filter fun e => decide (e.1 ≠ k)) := by
  unfold dropK ownK
  rw [List.filter_map]
  congr 1
  refine List.filter_congr fun e _ => ?_
  show decide (Sum.inl e.1 ≠ (Sum.inl k : Key)) = decide (e.1 ≠ k)
  exact decide_eq_decide.mpr (not_congr inl_eq)
theorem drop_goneK (gone : List Int) (k : Int) : dropK (goneK gone) (Sum.inl k) = goneK (gone.filter fun j => decide (j ≠ k)) := by
  unfold dropK goneK
  rw [List.filter_map]
  congr 1
  refine List.filter_congr fun e _ => ?_
  show decide (Sum.inl e ≠ (Sum.inl k : Key)) = decide (e ≠ k)
  exact decide_eq_decide.mpr (not_congr inl_eq)
theorem put_zL_own (n c : Int) (o g o' : Addr) : putK (zL n c o g) (Sum.inr "own") (.ref o') = zL n c o' g := by
  simp [putK, zL, nz1, nz2, nz3, nz4, nz5, nz6, Ne.symm nz6]
theorem put_zL_gone (n c : Int) (o g g' : Addr) : putK (zL n c o g) (Sum.inr "gone") (.ref g') = zL n c o g' := by
  simp [putK, zL, nz1, nz2, nz3, nz4, nz5, nz6]
/-! ### both side by side -/
def Nls (H H' : Hp) : Prop := ∀ b o, (∀ xs, o ≠ .lst xs) → H b = some o → H' b = some o
theorem Nls.of {H H' : Hp} (s : Same H H') : Nls H H' := fun b o _ h => s b o h
theorem Nls.trans {H H1 H2 : Hp} (x : Nls H H1) (y : Nls H1 H2) : Nls H H2 := fun b o n h => y b o n (x b o n h)
theorem Nls.ext {a : Addr} {H H' : Hp} (d : DrawAt H a) (e : Ext a H H') : Nls H H' := fun b o n h => e.2 b o (by
  obtain ⟨l, ns, i, left, seed, m, h1, _⟩ := d
  exact ne_of h h1 (n _)) h
structure Both (C : Addr) (H : Hp) (p d a o g : Addr) (s : Sz) (z : Zs) : Prop where
  S : SzW C H p d s
  Z : ZAt H a o g z
  R : Rel s z
  w : Zw z
  da : d ≠ a
  dO : d ≠ o
  dg : d ≠ g
theorem SzW.wf {C : Addr} {H : Hp} {p d : Addr} {z : Sz} (S : SzW C H p d z) : Wf z := by
  obtain ⟨_, _, _, _, _, W⟩ := S
  exact W
theorem SzW.nls {C : Addr} {H H' : Hp} {p d : Addr} {z : Sz} (S : SzW C H p d z) (e : Nls H H') : SzW C H' p d z := by
  obtain ⟨dx, kvs, h1, h2, h3, W⟩ := S
  exact ⟨dx, kvs, e _ _ (fun _ q => by cases q) h1, e _ _ (fun _ q => by cases q) h2, h3.mono fun t xs q => e _ _ (fun _ q => by cases q) q, W⟩
theorem ZAt.nls {H H' : Hp} {a o g : Addr} {z : Zs} (h : ZAt H a o g z) (e : Nls H H') : ZAt H' a o g z := ⟨e _ _ (fun _ q => by cases q) h.ha, e _ _ (fun _ q => by cases q) h.ho, e _ _ (fun _ q => by cases q) h.hg, h.ao, h.ag, h.og, h.ok⟩
theorem Both.nls {C : Addr} {H H' : Hp} {p d a o g : Addr} {s : Sz} {z : Zs} (B : Both C H p d a o g s z) (e : Nls H H') : Both C H' p d a o g s z := ⟨B.S.nls e, B.Z.nls e, B.R, B.w, B.da, B.dO, B.dg⟩
theorem ZAt.frm {H H' : Hp} {a o g d : Addr} {z : Zs} (h : ZAt H a o g z) (h1 : d ≠ a) (h2 : d ≠ o) (h3 : d ≠ g) (f : Frm d H H') : ZAt H' a o g z := ⟨f _ _ h1.symm h.ha, f _ _ h2.symm h.ho, f _ _ h3.symm h.hg, h.ao, h.ag, h.og, h.ok⟩
/-- a deed in both -/
theorem Both.step {C : Addr} {H' H'' : Hp} {p d a' o' g' : Addr} {s : Sz} {z : Zs} {i own : Int} {hid : Bool} (w : Zw z) (R : Rel s z) (S' : SzW C H' p d (keepM s i own hid)) (e : Same H' H'') (Z' : ZH H'' a' o' g' (zwithM z i own hid)) (na : H' a' = none) (no : H' o' = none) (ng : H' g' = none) :
    Both C H'' p d a' o' g' (keepM s i own hid) (zwithM z i own hid) := by
  have w' := zwith_w w i own hid
  have W' := S'.wf
  have R' : Rel (keepM s i own hid) (zwithM z i own hid) := rel_mk W' w' R.many R.common fun k => by rw [keep_st, zwith_st, R.st k]
  have hd : ∃ u, H' d = some u := by
    obtain ⟨_, kvs, _, h2, _⟩ := S'
    exact ⟨_, h2⟩
  obtain ⟨u, hd⟩ := hd
  exact ⟨S'.same e, ⟨Z'.ha, Z'.ho, Z'.hg, Z'.ao, Z'.ag, Z'.og, zok_of W' w' R'⟩, R', w', ne_of_none hd na, ne_of_none hd no, ne_of_none hd ng⟩
theorem DrawAt.frm {H H' : Hp} {a d : Addr} {kvs : List (Key × V)} (D : DrawAt H a) (hd : H d = some (.dK kvs)) (f : Frm d H H') : DrawAt H' a := by
  obtain ⟨l, ns, i, left, seed, n, h1, h2, r⟩ := D
  exact ⟨l, ns, i, left, seed, n, f _ _ (ne_of h1 hd (by intro e; unfold drawO at e; cases e)) h1, f _ _ (ne_of h2 hd (by intro e; cases e)) h2, r⟩
end Gs

set_option Elab.async false
set_option linter.all false
set_option maxRecDepth 100000
set_option maxHeartbeats 4000000
namespace Gs
open PySem L2
/-! ### sums ahead of a thing -/
theorem sz_plain {z : Sz} {i : Int} (h : ¬ i ∈ z.odd.map (·.1)) : szM z i = z.common := by
  rw [look_key] at h
  have e : look z.odd i = none := by simpa using h
  unfold szM stM
  rw [e]
  rfl
theorem sum_step (f : Int → Int) (i : Int) : ∀ l : List Int, l.Nodup → ((l.filter fun k => decide (k < i + 1)).map f).sum = ((l.filter fun k => decide (k < i)).map f).sum + if i ∈ l then f i else 0
  | [], _ => by simp
  | k :: r, nd => by
    rw [List.nodup_cons] at nd
    have ih := sum_step f i r nd.2
    by_cases h1 : k < i
    · have h2 : k < i + 1 := by omega
      have h3 : ¬ i = k := by omega
      rw [List.filter_cons_of_pos (by simpa using h2), List.filter_cons_of_pos (by simpa using h1), List.map_cons, List.map_cons, List.sum_cons, List.sum_cons, ih]
      simp only [List.mem_cons, h3, false_or]
      omega
    · by_cases h3 : k = i
      · subst h3
        have h2 : k < k + 1 := by omega
        rw [List.filter_cons_of_pos (by simpa using h2), List.filter_cons_of_neg (by simp), List.map_cons, List.sum_cons, ih]
        simp only [nd.1, if_false, List.mem_cons, true_or, if_true]
        omega
      · have h2 : ¬ k < i + 1 := by omega
        have h4 : ¬ i = k := fun z => h3 z.symm
        rw [List.filter_cons_of_neg (by simpa using h2), List.filter_cons_of_neg (by simpa using h1), ih]
        simp only [List.mem_cons, h4, false_or]
theorem ah_succ {z : Sz} (W : Wf z) (i : Int) : ahM z (i + 1) = ahM z i + szM z i := by
  unfold ahM
  rw [sum_step _ i _ W.nd]
  by_cases h : i ∈ z.odd.map (·.1)
  · rw [if_pos h, Int.add_mul]
    omega
  · rw [if_neg h, sz_plain h, Int.add_mul]
    omega
theorem ah_gap {z : Sz} {a b : Int} (h : ∀ k ∈ z.odd.map (·.1), k < a ∨ b ≤ k) (hab : a ≤ b) : ahM z b = ahM z a + (b - a) * z.common := by
  unfold ahM
  have e : ((z.odd.map (·.1)).filter fun k => decide (k < b)) = (z.odd.map (·.1)).filter fun k => decide (k < a) := by
    refine List.filter_congr fun k hk => ?_
    refine decide_eq_decide.mpr ?_
    have := h k hk
    omega
  rw [e, Int.sub_mul]
  omega
theorem ah_zero {z : Sz} (W : Wf z) : ahM z 0 = 0 := by
  unfold ahM
  have e : ((z.odd.map (·.1)).filter fun k => decide (k < 0)) = [] := by
    rw [List.filter_eq_nil_iff]
    intro k hk
    obtain ⟨e, he, ek⟩ := List.mem_map.mp hk
    have := (W.ok e he).1
    simp
    omega
  rw [e]
  simp
theorem sz_range {z : Sz} (W : Wf z) (i : Int) : 0 ≤ szM z i ∧ szM z i ≤ 60 := by
  have := st_range W i
  unfold szM
  split
  · omega
  · omega
theorem ah_nat {z : Sz} (W : Wf z) : ∀ n : Nat, 0 ≤ ahM z (n : Int) ∧ ahM z (n : Int) ≤ 60 * n
  | 0 => by
    have := ah_zero W
    show 0 ≤ ahM z 0 ∧ ahM z 0 ≤ _
    rw [this]
    omega
  | n + 1 => by
    have ih := ah_nat W n
    have s := ah_succ W (n : Int)
    have r := sz_range W (n : Int)
    have e : ((n + 1 : Nat) : Int) = (n : Int) + 1 := by omega
    rw [e, s]
    omega
theorem ah_range {z : Sz} (W : Wf z) {i : Int} (h : 0 ≤ i) : 0 ≤ ahM z i ∧ ahM z i ≤ 60 * i := by
  have := ah_nat W i.toNat
  have e : ((i.toNat : Nat) : Int) = i := by omega
  rw [e] at this
  exact this
theorem ah_mono_nat {z : Sz} (W : Wf z) (a : Int) : ∀ n : Nat, ahM z a ≤ ahM z (a + n)
  | 0 => by
    have e : a + ((0 : Nat) : Int) = a := by omega
    rw [e]
    exact Int.le_refl _
  | n + 1 => by
    have ih := ah_mono_nat W a n
    have s := ah_succ W (a + n)
    have r := sz_range W (a + n)
    have e : a + ((n + 1 : Nat) : Int) = a + n + 1 := by omega
    rw [e, s]
    omega
theorem ah_mono {z : Sz} (W : Wf z) {a b : Int} (h : a ≤ b) : ahM z a ≤ ahM z b := by
  have := ah_mono_nat W a (b - a).toNat
  have e : a + ((b - a).toNat : Int) = b := by omega
  rw [e] at this
  exact this
/-- only one thing lies over a point -/
theorem at_one {z : Sz} (W : Wf z) {i j pt : Int} (h1 : ahM z i ≤ pt) (h2 : pt < ahM z i + szM z i) (h3 : ahM z j ≤ pt) (h4 : pt < ahM z j + szM z j) : i = j := by
  have s1 := ah_succ W i
  have s2 := ah_succ W j
  rcases Int.lt_trichotomy i j with h | h | h
  · have := ah_mono W (show i + 1 ≤ j by omega)
    omega
  · exact h
  · have := ah_mono W (show j + 1 ≤ i by omega)
    omega
def spAt (C cP : Addr) : Sp := fun vs H Q E => ∃ (p d : Addr) (z : Sz) (pt : Int), vs = [.ref p, .int pt] ∧ SzW C H p d z ∧ Sm pt ∧
  (0 ≤ pt → pt < ahM z z.many → ∀ (k : Int) (t : Addr) (H' : Hp), inR z k → ahM z k ≤ pt → pt < ahM z k + szM z k → Same H H' → H' t = some (.tup [.int k, .int (pt - ahM z k)]) → Q (.ref t) H') ∧
  (¬ (0 ≤ pt ∧ pt < ahM z z.many) → ∀ H', Same H H' → E (.ref cP) none H')
theorem lt_of_pw {ys : List Int} (pw : ys.Pairwise (· ≤ ·)) (nd : ys.Nodup) : ys.Pairwise (· < ·) := by
  refine List.Pairwise.imp₂ (fun a b h1 h2 => ?_) pw nd
  omega
theorem drop_at {ys : List Int} {j : Nat} {x : Int} (h : ys[j]? = some x) : ys.drop j = x :: ys.drop (j + 1) := by
  have hj : j < ys.length := by
    rw [List.getElem?_eq_some_iff] at h
    exact h.1
  rw [List.drop_eq_getElem_cons hj]
  rw [List.getElem?_eq_getElem hj] at h
  rw [Option.some.inj h]
end Gs

set_option Elab.async false
set_option linter.all false
set_option maxRecDepth 100000
set_option maxHeartbeats 4000000
namespace Gs
open PySem L2
/-! ### rows of pairs -/
abbrev Pr := Int × Int
def prD (e : Pr) : PyData := .tuple [.int e.1, .int e.2]
def DpP (H : Hp) (xs : List V) (es : List Pr) : Prop := Paired (fun (v : V) (e : Pr) => ∃ t, v = .ref t ∧ H t = some (.tup [.int e.1, .int e.2])) xs es
theorem DpP.mono {H H' : Hp} (s : TupSame H H') : ∀ {xs : List V} {cs : List Pr}, DpP H xs cs → DpP H' xs cs
  | _, _, .nil => .nil
  | _, _, .cons ⟨t, e, h⟩ r => .cons ⟨t, e, s _ _ h⟩ (DpP.mono s r)
theorem DpP.append {H : Hp} : ∀ {xs ys : List V} {cs ds : List Pr}, DpP H xs cs → DpP H ys ds → DpP H (xs ++ ys) (cs ++ ds)
  | _, _, _, _, .nil, s => s
  | _, _, _, _, .cons a r, s => .cons a (DpP.append r s)
theorem DpP.len {H : Hp} : ∀ {xs : List V} {cs : List Pr}, DpP H xs cs → xs.length = cs.length
  | _, _, .nil => rfl
  | _, _, .cons _ r => by simp [DpP.len r]
theorem DpP.dp {K : PySem.W.Frag} {H : Hp} : ∀ {xs : List V} {cs : List Pr}, DpP H xs cs → DpAll K H xs (cs.map prD)
  | _, _, .nil => .nil
  | _, _, .cons ⟨t, e, h⟩ r => by
    subst e
    exact .cons (.tup (SqT.of h) (.cons (.int _) (.cons (.int _) .nil))) (DpP.dp r)
theorem pr_mxl : ∀ es : List Pr, mxlAll (es.map prD) ≤ 3
  | [] => by simp [mxlAll]
  | e :: r => by
    have := pr_mxl r
    simp only [List.map_cons, mxlAll, prD, mxl, List.length_cons, List.length_nil]
    omega
theorem pr_depth : ∀ es : List Pr, PyData.depthAll (es.map prD) ≤ 1
  | [] => by simp [PyData.depthAll]
  | e :: r => by
    have := pr_depth r
    simp only [List.map_cons, PyData.depthAll, prD, PyData.depth]
    omega
/-- all points in their order -/
def dueL (z : Sz) : Nat → List Pr
  | 0 => []
  | m + 1 => dueL z m ++ (List.range (szM z m).toNat).map fun (w : Nat) => ((m : Int), (w : Int))
theorem due_len {z : Sz} (W : Wf z) : ∀ m : Nat, ((dueL z m).length : Int) = ahM z m
  | 0 => by
    show (0 : Int) = ahM z 0
    rw [ah_zero W]
  | m + 1 => by
    have ih := due_len W m
    have s := ah_succ W (m : Int)
    have r := sz_range W (m : Int)
    have e : ((m + 1 : Nat) : Int) = (m : Int) + 1 := by omega
    rw [e, s]
    unfold dueL
    rw [List.length_append, List.length_map, List.length_range]
    omega
theorem due_at {z : Sz} (W : Wf z) {k w : Int} (k0 : 0 ≤ k) (w0 : 0 ≤ w) (w1 : w < szM z k) : ∀ m : Nat, k < m → (dueL z m)[(ahM z k + w).toNat]? = some (k, w)
  | 0, h => by omega
  | m + 1, h => by
    have l := due_len W m
    have a0 := (ah_range W k0).1
    unfold dueL
    by_cases hk : k < m
    · have mo := ah_mono W (show k + 1 ≤ (m : Int) by omega)
      have s := ah_succ W k
      rw [List.getElem?_append_left (by omega)]
      exact due_at W k0 w0 w1 m hk
    · have e : k = (m : Int) := by omega
      rw [List.getElem?_append_right (by rw [← e] at l; omega)]
      have e2 : (ahM z k + w).toNat - (dueL z m).length = w.toNat := by rw [← e] at l; omega
      have hw : w.toNat < (szM z (m : Int)).toNat := by rw [← e]; omega
      rw [e2, List.getElem?_map, List.getElem?_range hw]
      show some ((m : Int), (w.toNat : Int)) = some (k, w)
      rw [e]
      congr 2
      omega
theorem ints2 {a b r : Int} (h0 : 0 ≤ r) (h1 : r < 2) : ∃ n, (n = a ∨ n = b) ∧ atI [V.int a, .int b] r = some (.int n) := by
  have : r = 0 ∨ r = 1 := by omega
  rcases this with rfl | rfl
  · exact ⟨a, .inl rfl, atI_nat (j := 0) rfl⟩
  · exact ⟨b, .inr rfl, atI_nat (j := 1) rfl⟩
theorem rel0 (n c : Int) : Rel ⟨n, c, []⟩ ⟨n, c, [], []⟩ := ⟨rfl, rfl, fun k => rfl, .nil⟩
theorem zw0 (n c : Int) : Zw ⟨n, c, [], []⟩ := ⟨List.nodup_nil, fun e he => (nomatch he), List.nodup_nil⟩
theorem szw_ins {C : Addr} {H : Hp} {p d : Addr} {z : Sz} (S : SzW C H p d z) : ∃ dx, H p = some (.ins C dx (fldZ z.many z.common d)) := by
  obtain ⟨dx, kvs, h1, _⟩ := S
  exact ⟨dx, h1⟩
theorem szw_dict {C : Addr} {H : Hp} {p d : Addr} {z : Sz} (S : SzW C H p d z) : ∃ kvs, H d = some (.dK kvs) := by
  obtain ⟨dx, kvs, h1, h2, _⟩ := S
  exact ⟨kvs, h2⟩
def spLaw (K : PySem.W.Frag) : Sp := fun vs H Q _ => ∃ (a : Addr) (ns : List Int), vs = [.ref a] ∧ SqL K H a (ns.map V.int) ∧ ns.length ≤ 63 ∧ ∀ H', Q (.bl true) H'
end Gs

set_option Elab.async false
set_option linter.all false
set_option maxRecDepth 100000
set_option maxHeartbeats 4000000
namespace Gs
open PySem PySem.Spec PyProof.Rows L2
/-! ### except (A, B) as n -/
def wAsT (K : PySem.W.Frag) (c1 c2 : Value) (i : Nat) (ts : Addr → Value → Option Addr → TS) (Wo : WX) (D : Ends) : WX := fun cls d σ H =>
  ∃ yes, PySem.W.exmAny K cls [c1, c2] = some yes ∧ (yes = false → Wo cls d σ H) ∧ (yes = true → ∀ a, H a = none → ts a cls d { nx := fun τ J => D.nx (τ.set i none) J, rt := D.rt, bk := fun τ J => D.bk (τ.set i none) J, ct := fun τ J => D.ct (τ.set i none) J } (σ.set i (some (.ref a))) H)
theorem fly_push {B h : Heap} {l : List Env} {e : Addr} {Zp : Obj → Prop} (x : HandSPX.FlyingZ B l e Zp h) (o : Obj) : HandSPX.FlyingZ B l e Zp (h.push o) := by
  have kp : ∀ q u, h.get? q = some u → (h.push o).get? q = some u := fun _ _ z => Heap.get?_push_of_some _ z
  obtain ⟨y1, y2, y3, oe, vs, t, ot, us, z1, z2, z3, z4, z5, z6, z7, z8, z9⟩ := x
  exact ⟨fun q u r => kp q u (y1 q u r), y2, y3.of_keeps (fun b u r _ => ⟨u, kp b u r, rfl⟩), oe, vs, t, ot, us, kp _ _ z1, z2, z3, z4, z5, z6, kp _ _ z7, z8, z9⟩
section
variable {X : Cx} {x1 x2 n : Str} {c1 c2 : Value} {i kk : Nat} {body suite : List Stmt} {b₀ : Stmt} {p1 p2 tp pos pos' : Pos} {tb : WX → TS} {ts : Addr → Value → Option Addr → TS} {Wo : WX}
theorem ld_names {c : Value} {x : Str} {np : Pos} {pins : List (Addr × Obj)} {s : Shared} {σ : L2.St} {H : Hp} {Q E : Value → Shared → Prop} (hc : Names X x c) (I : Inv X pins σ H s) (q : Q c s) : wpAny (model X.prog X.w) X.A (eval (.Name x np) X.env) Q E s := by
  rcases hc with ⟨g, db, m | ⟨m, v, nn⟩⟩
  · exact ld_glob I g m q db
  · exact ld_blt I g m v q nn db
theorem ps_try_asT (hs : X.stack = X.env :: X.outer) (hf : X.env.frame = some X.env.locals) (hN : X.N.Nodup) (hi : X.N[i]? = some n) (hln : X.env.kindOf n = some .local) (n1 : Names X x1 c1) (n2 : Names X x2 c2) (tk : Takes X Wo)
    (hb : ∀ (W : WX) (pn : List (Addr × Obj)) (xe : Value → Shared → Prop), Takes (X.tr pn xe) W → PassesOwn (model X.prog X.w) X.A X.env xe → PSs (X.tr pn xe) body (tb W))
    (hsu : ∀ (a : Addr) (oe : Obj) (cls : Value) (d : Option Addr) (pn : List (Addr × Obj)), Zc cls d oe → (∃ vs, oe.data = .fields vs) → PSs (X.suite a ((a, oe) :: pn)) (b₀ :: suite) (ts a cls d)) :
    PS X (.Try body [.ExceptHandler (some (.Tuple [.Name x1 p1, .Name x2 p2] kk tp)) (some n) (b₀ :: suite) pos'] [] [] pos) (fun D σ H => tb (wAsT X.K c1 c2 i ts Wo D) D σ H) := by
  constructor
  intro pins s σ H D I h
  have ok := I.ok; have hfr : X.A.frames = some (X.env :: X.outer) := by rw [ok.frames, hs]
  have bind_at : Loc X.env.scope n := .inl hln
  apply wpAny_Try_except
  have run := (hb (wAsT X.K c1 c2 i ts Wo D) (X.pn ++ pins) (fun e u₁ => wpAny (model X.prog X.w) X.A (noteFrame e X.env) (fun _ u₂ => wpAny (model X.prog X.w) X.A (setFlight e none) (fun _ u₃ => wpAny (model X.prog X.w) X.A (handleBy e X.env [.ExceptHandler (some (.Tuple [.Name x1 p1, .Name x2 p2] kk tp)) (some n) (b₀ :: suite) pos']) (SP X pins D) X.xe u₃) X.xe u₂) X.xe u₁) (fun u s' xx => ?hit) PassesOwn.looking).run [] s σ H D (I.toTry _) h
  case hit =>
    obtain ⟨a, B, sI, pins', σ', H', cls, d, rfl, J', nb, up, sky, na, os, ag, yes, hyes, out, inn⟩ := xx
    have J : Inv X pins σ' H' sI := J'.ofTry ok
    rw [hs] at sky
    show wpAny (model X.prog X.w) X.A (noteFrame (.ref a) X.env) _ _ _
    refine Sky.land Zc.steady hfr hf sky fun hA flA upA => ?_
    have JA : Inv X pins σ' H' { s' with heap := hA } := J.landed nb flA.1 (up.trans upA) os ag
    obtain ⟨oA, vA, gA, zA, dA⟩ := flA.there
    have off : a ∉ frs (X.env :: X.outer) := fun hm => by
      obtain ⟨_, o2, g2, no⟩ := flA.2.2.1.mem hm
      rw [gA] at g2; cases g2
      exact no _ dA
    have offL : a ≠ X.env.locals := fun z => off (List.mem_filterMap.mpr ⟨X.env, List.mem_cons_self, by rw [hf, z]⟩)
    have offF : a ∉ X.fs := fun hm => by
      obtain ⟨v, hv, q⟩ := List.mem_filterMap.mp hm
      exact off (List.mem_filterMap.mpr ⟨v, List.mem_cons_of_mem _ hv, q⟩)
    have SA := JA.suite gA dA na offL offF
    refine wpAny_handleBy_cons (codeAny_handlers_test ?_) (by intro q; cases q)
    refine wpAny_Tuple (wpAny_items_cons (ld_names (X := X.suite a ((a, oA) :: (X.pn ++ pins))) n1 SA (wpAny_items_cons (ld_names (X := X.suite a ((a, oA) :: (X.pn ++ pins))) n2 SA (wpAny_items_nil ⟨show 2 ≤ sizeLine by decide, ?_⟩)))))
    -- the tuple of the two lies behind all that was there
    obtain ⟨hP, ehP⟩ : ∃ hP, hP = hA.push { cls := .type "tuple", data := .seq [c1, c2].toArray } := ⟨_, rfl⟩
    have flP : HandSPX.FlyingZ B (X.env :: X.outer) a (Zc cls d) hP := by rw [ehP]; exact fly_push flA _
    have upP : hA.UpToSlots hP := fun b u r _ => ⟨u.slots, by rw [ehP]; exact Heap.get?_push_of_some _ r⟩
    have JP : Inv X pins σ' H' { s' with heap := hP } := J.landed nb flP.1 ((up.trans upA).trans upP) os ag
    obtain ⟨oP, vP, gP, zP, dP⟩ := flP.there
    have kind : PySem.W.Looks (model X.prog X.w) hP (typeOf (.ref a)) cls := fun A Q E s keep q => wpAny_typeOf_ref (keep _ _ gP) (by rw [zP.1]; exact q)
    have tupAt : hP.get? hA.objs.size = some { cls := .type "tuple", data := .seq [c1, c2].toArray } := by rw [ehP]; exact Heap.get?_push_size hA rfl
    have says := PySem.W.exm_tup2 (M := model X.prog X.w) JP.kIn kind tupAt hyes
    show wpAny _ _ (excMatches (.ref a) (.ref hA.objs.size)) _ _ { s' with heap := hA.push _ }
    rw [← ehP]
    refine says.here ?_
    cases yes
    · show wpAny _ X.A (handleBy (.ref a) X.env []) _ _ _
      refine wpAny_handleBy_nil ?_
      obtain ⟨_, _, _, oQ, vQ, t, ot, us, gQ, zQ, dQ, f1, _⟩ := id flP
      unfold PySem.passOn
      refine wpAny_bind (wpAny_field gQ dQ f1 ?_)
      rw [if_neg (show ¬ ((Value.ref t == Value.none) = true) from by simp)]
      have fin : wpAny (model X.prog X.w) X.A (setFlight (.ref a) X.env.frame) (fun _ s4 => wpAny (model X.prog X.w) X.A (throw (.ref a) : Sem Flow) (SP X pins D) X.xe s4) X.xe { s' with heap := hP } := by
        rw [hf]
        exact HandSPX.setFlight_upZ flP fun h4 hh4 up4 => wpAny_throw (tk _ _ ⟨a, B, sI, pins, σ', H', cls, d, rfl, J, nb, ((up.trans upA).trans upP).trans up4, .inr (.inr (by rw [hs]; exact hh4)), na, os, ag, out rfl⟩)
      first | exact wpAny_bind (wpAny_pure (wpAny_bind fin)) | exact wpAny_bind fin
    · refine codeAny_handlers_suite_as (HandSPX.lands_againZ flP fun hB flB upB => ?_)
      have JB : Inv X pins σ' H' { s' with heap := hB } := J.landed nb flB.1 (((up.trans upA).trans upP).trans upB) os ag
      obtain ⟨oB, vB, gB, zB, dB⟩ := flB.there
      refine store_ok (X := X.suite a ((a, oB) :: (X.pn ++ pins))) (v := .ref a) (JB.suite gB dB na offL offF) hN hi bind_at rfl (fun s5 S5 => ?_) (.inr hln)
      have unb : ∀ {s6 : Shared} {τ : L2.St} {J6 : Hp} {Q : Shared → Prop}, Inv (X.suite a ((a, oB) :: (X.pn ++ pins))) [] τ J6 s6 → (∀ s7, Inv X pins (τ.set i none) J6 s7 → Q s7) → wpAny (model X.prog X.w) X.A (do bindName X.env n .none; unbindBehindTheSuite X.env n pos') (fun _ s7 => Q s7) X.xe s6 := fun S6 hq => gone_ok (S6.unsuite ok) hN hi hln hq
      refine wpAny_mono ((hsu a oB cls d (X.pn ++ pins) zB ⟨_, dB⟩).run [] s5 _ H' _ S5 (inn rfl a na)) (fun f s6 e6 => ?_) (fun _ _ z => False.elim z)
      cases f with
      | ret u => obtain ⟨v6, τ, J6, S6, r6, q6⟩ := e6; exact unb S6 fun s7 J7 => ⟨_, _, _, J7, r6, q6⟩
      | next => obtain ⟨τ, J6, S6, q6⟩ := e6; exact unb S6 fun s7 J7 => ⟨_, _, J7, q6⟩
      | brk => obtain ⟨τ, J6, S6, q6⟩ := e6; exact unb S6 fun s7 J7 => ⟨_, _, J7, q6⟩
      | cont => obtain ⟨τ, J6, S6, q6⟩ := e6; exact unb S6 fun s7 J7 => ⟨_, _, J7, q6⟩
  refine wpAny_mono run (fun f s1 e1 => ?_) (fun e s1 he => he)
  cases f with
  | ret u => obtain ⟨v, τ, J1, I1, r, q⟩ := e1; exact ⟨v, τ, J1, I1.ofTry ok, r, q⟩
  | next => obtain ⟨τ, J1, I1, q⟩ := e1; exact wpAny_execs_nil ⟨τ, J1, I1.ofTry ok, q⟩
  | brk => obtain ⟨τ, J1, I1, q⟩ := e1; exact ⟨τ, J1, I1.ofTry ok, q⟩
  | cont => obtain ⟨τ, J1, I1, q⟩ := e1; exact ⟨τ, J1, I1.ofTry ok, q⟩
end
theorem exm_any2 {K : PySem.W.Frag} {cls c1 c2 : Value} {b1 b2 : Bool} (h1 : PySem.W.exmOne K cls c1 = some b1) (h2 : PySem.W.exmOne K cls c2 = some b2) : PySem.W.exmAny K cls [c1, c2] = some (b1 || b2) := by
  unfold PySem.W.exmAny
  rw [h1]
  unfold PySem.W.exmAny
  rw [h2]
  unfold PySem.W.exmAny
  simp
theorem same_noneP {P : Program} {w : World} {K : PySem.W.Frag} {mg : Str → Option Value} {base : Heap} {f : Addr} {fd : FuncData} {ps : List Str} : FnOk P w K mg base CX0 0 f fd ps (spSame K 0) := by
  have no : ∀ vs H Q E, ¬ spSame K 0 vs H Q E := fun vs H Q E h => by
    obtain ⟨x, y, d, _, _, _, h1, _⟩ := h
    omega
  exact ⟨fun vs H Q E h => absurd h (no vs H Q E), fun A outer s H args us vs Q E _ _ _ _ h => absurd h (no vs H Q E)⟩
theorem mt_indexK {X : Cx} {K : PySem.W.Frag} (h : X.K = K) : L2.MtR X "list.index" (rIndex K) := by subst h; exact mt_index
theorem pe_bm1K {X : Cx} {K : PySem.W.Frag} {o e : Expr} {to : TE} {ta : TA} {name : Str} {apos cpos : Pos} {T id : String} {r : V → List V → Hp → VK → Prop} (hK : X.K = K) (pa : PlainAttrs T) (slot : Slot T name id) (hty : typeOf (.builtin id) = pure (.type "method_descriptor")) (hm : L2.MtR X id r) (ho : PE X o to) (ha : PA X [e] ta)
    (h1 : attributeBase o name X.env (eval o X.env) = eval o X.env := by rfl)
    (h2 : ((backTo cpos (starEach [e] X.env)).all (fun x => !x.1) && (backToKw cpos (keywordEach [] X.env)).all (fun x => x.1.isSome) && decide (([e] : List Expr).length + ([] : List Keyword).length + (if ([] : List Keyword).isEmpty then 0 else 1) < 30)) = true := by rfl)
    (h3 : (apos.endLine == cpos.line) = true := by rfl) (h4 : starEach [e] X.env = (false, eval e X.env) :: starEach [] X.env := by rfl) (h5 : (backTo cpos (starEach [] X.env)).any (·.1) = false := by rfl) : PE X (.Call (.Attribute o name apos) [e] [] cpos) (tBM K T r to ta) := by
  subst hK
  exact pe_bm pa slot hty hm ho ha h1 h2 h3 h4 h5
def spFarB : Sp := fun vs H Q _ => ∃ a : Addr, vs = [.ref a] ∧ DrawAt H a ∧ ∀ (i : Int) (H' : Hp), (-(10 ^ 40) ≤ i ∧ i ≤ 10 ^ 40) → (i < -1000000 ∨ 1000000 < i) → Gs.Ext a H H' → Q (.int i) H'
theorem Sm.of2 {i : Int} (h0 : -(10 ^ 45) ≤ i) (h1 : i ≤ 10 ^ 45) : Sm i := by
  have : i.natAbs ≤ 10 ^ 45 := by omega
  exact Nat.lt_of_le_of_lt this (by decide)
end Gs

set_option Elab.async false
set_option linter.all false
set_option maxRecDepth 100000
set_option maxHeartbeats 4000000
namespace Gs
open PySem L2
/-! ### things moved -/
def movO (f : Int → Option Int) (odd : List OddE) : List OddE := odd.filterMap fun e => (f e.1).map fun k => (k, e.2)
def Inj (f : Int → Option Int) : Prop := ∀ a b c, f a = some c → f b = some c → a = b
def fPut (i n : Int) : Int → Option Int := fun k => some (if k < i then k else k + n)
def fCut (i n : Int) : Int → Option Int := fun k => if k < i then some k else if i + n ≤ k then some (k - n) else none
theorem inj_put {i n : Int} (h : 0 ≤ n) : Inj (fPut i n) := fun a b c h1 h2 => by
  have e1 : (if a < i then a else a + n) = c := Option.some.inj h1
  have e2 : (if b < i then b else b + n) = c := Option.some.inj h2
  split at e1 <;> split at e2 <;> omega
theorem inj_cut {i n : Int} (h : 0 ≤ n) : Inj (fCut i n) := fun a b c h1 h2 => by
  unfold fCut at h1 h2
  split at h1
  · have e1 := Option.some.inj h1
    split at h2
    · have e2 := Option.some.inj h2
      omega
    · split at h2
      · have e2 := Option.some.inj h2
        omega
      · cases h2
  · split at h1
    · have e1 := Option.some.inj h1
      split at h2
      · have e2 := Option.some.inj h2
        omega
      · split at h2
        · have e2 := Option.some.inj h2
          omega
        · cases h2
    · cases h1
theorem mov_mem {f : Int → Option Int} {odd : List OddE} {e : OddE} : e ∈ movO f odd ↔ ∃ u ∈ odd, f u.1 = some e.1 ∧ u.2 = e.2 := by
  unfold movO
  rw [List.mem_filterMap]
  constructor
  · rintro ⟨u, hu, h⟩
    cases q : f u.1 with
    | none => rw [q] at h; cases h
    | some k =>
      rw [q] at h
      have := Option.some.inj h
      subst this
      exact ⟨u, hu, q, rfl⟩
  · rintro ⟨u, hu, h1, h2⟩
    refine ⟨u, hu, ?_⟩
    rw [h1, h2]
    rfl
theorem mov_snoc {f : Int → Option Int} {odd : List OddE} {j : Nat} {e : OddE} (h : odd[j]? = some e) : movO f (odd.take (j + 1)) = movO f (odd.take j) ++ (match f e.1 with | some k => [(k, e.2)] | none => []) := by
  unfold movO
  rw [List.take_add_one, h, List.filterMap_append]
  congr 1
  cases q : f e.1 with
  | none => simp [q]
  | some k => simp [q]
theorem mov_nodup {f : Int → Option Int} (fi : Inj f) : ∀ {odd : List OddE}, (odd.map (·.1)).Nodup → ((movO f odd).map (·.1)).Nodup
  | [], _ => by simp [movO]
  | e :: r, nd => by
    rw [List.map_cons, List.nodup_cons] at nd
    have ih := mov_nodup fi nd.2
    cases q : f e.1 with
    | none =>
      have : movO f (e :: r) = movO f r := by simp [movO, q]
      rw [this]
      exact ih
    | some k =>
      have : movO f (e :: r) = (k, e.2) :: movO f r := by simp [movO, q]
      rw [this, List.map_cons, List.nodup_cons]
      refine ⟨fun hm => ?_, ih⟩
      obtain ⟨u, hu, ek⟩ := List.mem_map.mp hm
      obtain ⟨v, hv, h1, _⟩ := mov_mem.mp hu
      have ek' : u.1 = k := ek
      rw [ek'] at h1
      exact nd.1 (List.mem_map.mpr ⟨v, hv, fi _ _ _ h1 q⟩)
theorem mov_new {f : Int → Option Int} (fi : Inj f) {odd : List OddE} (nd : (odd.map (·.1)).Nodup) {j : Nat} {e : OddE} (h : odd[j]? = some e) {k : Int} (hk : f e.1 = some k) : look (movO f (odd.take j)) k = none := by
  cases q : look (movO f (odd.take j)) k with
  | none => rfl
  | some x =>
    have hm := look_mem q
    obtain ⟨u, hu, h1, _⟩ := mov_mem.mp hm
    have e1 : u.1 = e.1 := fi _ _ _ h1 hk
    have sp : odd = odd.take j ++ e :: odd.drop (j + 1) := by
      have hj : j < odd.length := (List.getElem?_eq_some_iff.mp h).1
      have : odd.drop j = e :: odd.drop (j + 1) := by
        rw [List.drop_eq_getElem_cons hj]
        rw [List.getElem?_eq_getElem hj] at h
        rw [Option.some.inj h]
      rw [← this, List.take_append_drop]
    rw [sp, List.map_append, List.nodup_append] at nd
    exact absurd e1 (nd.2.2 u.1 (List.mem_map_of_mem hu) e.1 (by simp))
theorem mov_len (f : Int → Option Int) (odd : List OddE) : (movO f odd).length ≤ odd.length := List.length_filterMap_le _ _
/-- one thing more -/
theorem OddAt.mov {H : Hp} {f : Int → Option Int} (fi : Inj f) {odd : List OddE} (nd : (odd.map (·.1)).Nodup) {j : Nat} {e : OddE} (h : odd[j]? = some e) {k : Int} (hk : f e.1 = some k) {kvs : List (Key × V)} {t : Addr} (ht : H t = some (.tup [.int e.2.1, .bl e.2.2])) (o : OddAt H kvs (movO f (odd.take j))) :
    OddAt H (putK kvs (Sum.inl k) (.ref t)) (movO f (odd.take (j + 1))) := by
  have p := o.put (i := k) ht
  have e1 : putO (movO f (odd.take j)) k e.2 = movO f (odd.take (j + 1)) := by
    unfold putO
    rw [look_any, mov_new fi nd h hk, mov_snoc h, hk]
    rfl
  rw [e1] at p
  exact p
def putM (z : Sz) (i n : Int) : Sz := ⟨z.many + n, z.common, movO (fPut i n) z.odd⟩
def cutM (z : Sz) (i n : Int) : Sz := ⟨z.many - n, z.common, movO (fCut i n) z.odd⟩
theorem put_wf {z : Sz} {i n : Int} (W : Wf z) (hi : 0 ≤ i ∧ i ≤ z.many) (hn : 1 ≤ n) (hm : z.many + n ≤ 1000000000) : Wf (putM z i n) := by
  obtain ⟨m0, m1, c0, c1, nd, le, ok⟩ := W
  refine ⟨by show 1 ≤ z.many + n; omega, hm, c0, c1, mov_nodup (inj_put (by omega)) nd, Nat.le_trans (mov_len _ _) le, fun e he => ?_⟩
  obtain ⟨u, hu, h1, h2⟩ := mov_mem.mp he
  have := ok u hu
  have e1 : (if u.1 < i then u.1 else u.1 + n) = e.1 := Option.some.inj h1
  rw [← h2]
  show 0 ≤ e.1 ∧ e.1 < z.many + n ∧ _
  refine ⟨?_, ?_, this.2.2⟩ <;> (split at e1 <;> omega)
theorem cut_wf {z : Sz} {i n : Int} (W : Wf z) (hi : 0 ≤ i) (hn : 1 ≤ n) (hm : i + n ≤ z.many) (hl : n ≠ z.many) : Wf (cutM z i n) := by
  obtain ⟨m0, m1, c0, c1, nd, le, ok⟩ := W
  refine ⟨by show 1 ≤ z.many - n; omega, by show z.many - n ≤ 1000000000; omega, c0, c1, mov_nodup (inj_cut (by omega)) nd, Nat.le_trans (mov_len _ _) le, fun e he => ?_⟩
  obtain ⟨u, hu, h1, h2⟩ := mov_mem.mp he
  have := ok u hu
  rw [← h2]
  show 0 ≤ e.1 ∧ e.1 < z.many - n ∧ _
  unfold fCut at h1
  split at h1
  · have e1 := Option.some.inj h1
    exact ⟨by omega, by omega, this.2.2⟩
  · split at h1
    · have e1 := Option.some.inj h1
      exact ⟨by omega, by omega, this.2.2⟩
    · cases h1
def goodP (n : Int) : Prop := 1 ≤ n ∧ n ≤ 1000
def goodC (z : Sz) (i n : Int) : Prop := 1 ≤ n ∧ i + n ≤ z.many ∧ n ≠ z.many
def spPut (C cN cM : Addr) : Sp := fun vs H Q E => ∃ (p d : Addr) (z : Sz) (i n : Int), vs = [.ref p, .int i, .int n] ∧ SzW C H p d z ∧ Sm i ∧ Sm n ∧ z.many ≤ 100000000 ∧
  (0 ≤ i ∧ i ≤ z.many → goodP n → ∀ (d' : Addr) (H' : Hp), H d' = none → Frm p H H' → SzW C H' p d' (putM z i n) → Q .non H') ∧ (¬ (0 ≤ i ∧ i ≤ z.many) → E (.ref cN) none H) ∧ (0 ≤ i ∧ i ≤ z.many → ¬ goodP n → E (.ref cM) none H)
def spCut (C cN cM : Addr) : Sp := fun vs H Q E => ∃ (p d : Addr) (z : Sz) (i n : Int), vs = [.ref p, .int i, .int n] ∧ SzW C H p d z ∧ Sm i ∧ Sm n ∧
  (inR z i → goodC z i n → ∀ (d' : Addr) (H' : Hp), H d' = none → Frm p H H' → SzW C H' p d' (cutM z i n) → Q .non H') ∧ (¬ inR z i → E (.ref cN) none H) ∧ (inR z i → ¬ goodC z i n → E (.ref cM) none H)
end Gs

set_option Elab.async false
set_option linter.all false
set_option maxRecDepth 100000
set_option maxHeartbeats 4000000
namespace Gs
open PySem L2
/-! ### all things as a list -/
theorem look_mov {f : Int → Option Int} (fi : Inj f) {a k : Int} (h : f a = some k) : ∀ odd : List OddE, look (movO f odd) k = look odd a
  | [] => rfl
  | e :: r => by
    have ih := look_mov fi h r
    rw [look_cons]
    cases q : f e.1 with
    | none =>
      have : movO f (e :: r) = movO f r := by simp [movO, q]
      rw [this, ih, if_neg]
      intro z
      rw [z, h] at q
      cases q
    | some c =>
      have : movO f (e :: r) = (c, e.2) :: movO f r := by simp [movO, q]
      rw [this, look_cons, ih]
      by_cases hc : c = k
      · subst hc
        have := fi _ _ _ q h
        rw [if_pos rfl, if_pos this]
      · rw [if_neg hc, if_neg]
        intro z
        rw [z, h] at q
        exact hc (Option.some.inj q).symm
theorem look_mov0 {f : Int → Option Int} {k : Int} (h : ∀ a, f a ≠ some k) (odd : List OddE) : look (movO f odd) k = none := by
  cases q : look (movO f odd) k with
  | none => rfl
  | some x =>
    obtain ⟨u, _, h1, _⟩ := mov_mem.mp (look_mem q)
    exact absurd h1 (h u.1)
theorem put_st {z : Sz} {i n : Int} (hn : 0 ≤ n) (k : Int) : stM (putM z i n) k = if k < i then stM z k else if k < i + n then (z.common, false) else stM z (k - n) := by
  have e : stM (putM z i n) k = (look (movO (fPut i n) z.odd) k).getD (z.common, false) := rfl
  rw [e]
  by_cases h1 : k < i
  · rw [if_pos h1, look_mov (inj_put hn) (a := k) (by unfold fPut; rw [if_pos h1])]
    rfl
  · rw [if_neg h1]
    by_cases h2 : k < i + n
    · rw [if_pos h2, look_mov0]
      · rfl
      · intro a q
        have : (if a < i then a else a + n) = k := Option.some.inj q
        split at this <;> omega
    · rw [if_neg h2, look_mov (inj_put hn) (a := k - n) (by unfold fPut; rw [if_neg (by omega), show k - n + n = k by omega])]
      rfl
theorem cut_st {z : Sz} {i n : Int} (hn : 0 ≤ n) (k : Int) : stM (cutM z i n) k = if k < i then stM z k else stM z (k + n) := by
  have e : stM (cutM z i n) k = (look (movO (fCut i n) z.odd) k).getD (z.common, false) := rfl
  rw [e]
  by_cases h1 : k < i
  · rw [if_pos h1, look_mov (inj_cut hn) (a := k) (by unfold fCut; rw [if_pos h1])]
    rfl
  · rw [if_neg h1, look_mov (inj_cut hn) (a := k + n) (by unfold fCut; rw [if_neg (by omega), if_pos (by omega), show k + n - n = k by omega])]
    rfl
def rowsM (z : Sz) : List (Int × Bool) := (List.range z.many.toNat).map fun (k : Nat) => stM z (k : Int)
theorem rows_len (z : Sz) : (rowsM z).length = z.many.toNat := by unfold rowsM; rw [List.length_map, List.length_range]
theorem rows_at {z : Sz} {k : Nat} (h : k < z.many.toNat) : (rowsM z)[k]? = some (stM z (k : Int)) := by
  unfold rowsM
  rw [List.getElem?_map, List.getElem?_range h]
  rfl
theorem rows_no {z : Sz} {k : Nat} (h : ¬ k < z.many.toNat) : (rowsM z)[k]? = none := by
  rw [List.getElem?_eq_none]
  rw [rows_len]
  omega
theorem rows_keep {z : Sz} {i own : Int} {hid : Bool} (hi : inR z i) : rowsM (keepM z i own hid) = (rowsM z).set i.toNat (own, hid) := by
  refine List.ext_getElem? fun k => ?_
  have em : (keepM z i own hid).many = z.many := rfl
  rw [List.getElem?_set, rows_len]
  by_cases hk : k < z.many.toNat
  · rw [rows_at (z := keepM z i own hid) (by rw [em]; exact hk), rows_at hk, keep_st]
    have h1 := hi.1
    have h2 := hi.2
    by_cases e : i.toNat = k
    · rw [if_pos e, if_pos (show (k : Int) = i by omega), if_pos (by omega)]
    · rw [if_neg e, if_neg (show ¬ (k : Int) = i by omega)]
  · rw [rows_no (z := keepM z i own hid) (by rw [em]; exact hk), rows_no hk]
    have h1 := hi.1
    have h2 := hi.2
    rw [if_neg (show ¬ i.toNat = k by omega)]
theorem rows_put {z : Sz} {i n : Int} (h0 : 0 ≤ i) (h1 : i ≤ z.many) (hn : 0 ≤ n) : rowsM (putM z i n) = (rowsM z).take i.toNat ++ List.replicate n.toNat (z.common, false) ++ (rowsM z).drop i.toNat := by
  have em : (putM z i n).many = z.many + n := rfl
  have lt : ((rowsM z).take i.toNat).length = i.toNat := by rw [List.length_take, rows_len]; omega
  have lr : (List.replicate n.toNat (z.common, false)).length = n.toNat := List.length_replicate
  refine List.ext_getElem? fun k => ?_
  by_cases hk : k < (z.many + n).toNat
  · rw [rows_at (z := putM z i n) (by rw [em]; exact hk), put_st hn]
    by_cases a : (k : Int) < i
    · rw [if_pos a, List.getElem?_append_left (by rw [List.length_append]; omega), List.getElem?_append_left (by omega), List.getElem?_take, if_pos (by omega), rows_at (by omega)]
    · rw [if_neg a]
      by_cases b : (k : Int) < i + n
      · rw [if_pos b, List.getElem?_append_left (by rw [List.length_append]; omega), List.getElem?_append_right (by omega), List.getElem?_replicate, if_pos (by omega)]
      · rw [if_neg b, List.getElem?_append_right (by rw [List.length_append]; omega), List.length_append, lt, lr, List.getElem?_drop, rows_at (by omega)]
        congr 2
        omega
  · rw [rows_no (z := putM z i n) (by rw [em]; exact hk), List.getElem?_eq_none]
    rw [List.length_append, List.length_append, lt, lr, List.length_drop, rows_len]
    omega
theorem rows_cut {z : Sz} {i n : Int} (h0 : 0 ≤ i) (hn : 0 ≤ n) (h1 : i + n ≤ z.many) : rowsM (cutM z i n) = (rowsM z).take i.toNat ++ (rowsM z).drop (i + n).toNat := by
  have em : (cutM z i n).many = z.many - n := rfl
  have lt : ((rowsM z).take i.toNat).length = i.toNat := by rw [List.length_take, rows_len]; omega
  refine List.ext_getElem? fun k => ?_
  by_cases hk : k < (z.many - n).toNat
  · rw [rows_at (z := cutM z i n) (by rw [em]; exact hk), cut_st hn]
    by_cases a : (k : Int) < i
    · rw [if_pos a, List.getElem?_append_left (by omega), List.getElem?_take, if_pos (by omega), rows_at (by omega)]
    · rw [if_neg a, List.getElem?_append_right (by omega), lt, List.getElem?_drop, rows_at (by omega)]
      congr 2
      omega
  · rw [rows_no (z := cutM z i n) (by rw [em]; exact hk), List.getElem?_eq_none]
    rw [List.length_append, lt, List.length_drop, rows_len]
    omega
abbrev Rw := Int × Bool
def rwD (e : Rw) : PyData := .tuple [.int e.1, .bool e.2]
def DpR (H : Hp) (xs : List V) (es : List Rw) : Prop := Paired (fun (v : V) (e : Rw) => ∃ t, v = .ref t ∧ H t = some (.tup [.int e.1, .bl e.2])) xs es
theorem DpR.nil0 {H : Hp} : DpR H [] [] := .nil
theorem DpR.mono {H H' : Hp} (s : TupSame H H') : ∀ {xs : List V} {cs : List Rw}, DpR H xs cs → DpR H' xs cs
  | _, _, .nil => .nil
  | _, _, .cons ⟨t, e, h⟩ r => .cons ⟨t, e, s _ _ h⟩ (DpR.mono s r)
theorem DpR.append {H : Hp} : ∀ {xs ys : List V} {cs ds : List Rw}, DpR H xs cs → DpR H ys ds → DpR H (xs ++ ys) (cs ++ ds)
  | _, _, _, _, .nil, s => s
  | _, _, _, _, .cons a r, s => .cons a (DpR.append r s)
theorem DpR.len {H : Hp} : ∀ {xs : List V} {cs : List Rw}, DpR H xs cs → xs.length = cs.length
  | _, _, .nil => rfl
  | _, _, .cons _ r => by simp [DpR.len r]
theorem DpR.take {H : Hp} : ∀ (n : Nat) {xs : List V} {cs : List Rw}, DpR H xs cs → DpR H (xs.take n) (cs.take n)
  | 0, _, _, _ => by simpa using (DpR.nil0 (H := H))
  | n + 1, _, _, .nil => by simpa using (DpR.nil0 (H := H))
  | n + 1, _, _, .cons a r => by
    rw [List.take_succ_cons, List.take_succ_cons]
    exact .cons a (DpR.take n r)
theorem DpR.drop {H : Hp} : ∀ (n : Nat) {xs : List V} {cs : List Rw}, DpR H xs cs → DpR H (xs.drop n) (cs.drop n)
  | 0, _, _, h => by simpa using h
  | n + 1, _, _, .nil => by simpa using (DpR.nil0 (H := H))
  | n + 1, _, _, .cons a r => by
    rw [List.drop_succ_cons, List.drop_succ_cons]
    exact DpR.drop n r
theorem DpR.set {H : Hp} {t : Addr} {e : Rw} (ht : H t = some (.tup [.int e.1, .bl e.2])) : ∀ (n : Nat) {xs : List V} {cs : List Rw}, DpR H xs cs → DpR H (xs.set n (.ref t)) (cs.set n e)
  | _, _, _, .nil => by simpa using (DpR.nil0 (H := H))
  | 0, _, _, .cons a r => by
    rw [List.set_cons_zero, List.set_cons_zero]
    exact .cons ⟨t, rfl, ht⟩ r
  | n + 1, _, _, .cons a r => by
    rw [List.set_cons_succ, List.set_cons_succ]
    exact .cons a (DpR.set ht n r)
theorem DpR.rep {H : Hp} {t : Addr} {e : Rw} (ht : H t = some (.tup [.int e.1, .bl e.2])) : ∀ n : Nat, DpR H (List.replicate n (.ref t)) (List.replicate n e)
  | 0 => .nil
  | n + 1 => by
    rw [List.replicate_succ, List.replicate_succ]
    exact .cons ⟨t, rfl, ht⟩ (DpR.rep ht n)
theorem DpR.at_ {H : Hp} : ∀ {xs : List V} {cs : List Rw} {n : Nat} {e : Rw}, DpR H xs cs → cs[n]? = some e → ∃ t, xs[n]? = some (.ref t) ∧ H t = some (.tup [.int e.1, .bl e.2])
  | _, _, _, _, .nil, q => by simp at q
  | _, _, 0, _, .cons ⟨t, e, h⟩ _, q => by
    simp at q
    subst q
    exact ⟨t, by rw [e]; rfl, h⟩
  | _, _, n + 1, _, .cons _ r, q => by simpa using DpR.at_ (n := n) r (by simpa using q)
theorem DpR.dp {K : PySem.W.Frag} {H : Hp} : ∀ {xs : List V} {cs : List Rw}, DpR H xs cs → DpAll K H xs (cs.map rwD)
  | _, _, .nil => .nil
  | _, _, .cons ⟨t, e, h⟩ r => by
    subst e
    exact .cons (.tup (SqT.of h) (.cons (.int _) (.cons (.bl _) .nil))) (DpR.dp r)
theorem rw_mxl : ∀ es : List Rw, mxlAll (es.map rwD) ≤ 3
  | [] => by simp [mxlAll]
  | e :: r => by
    have := rw_mxl r
    simp only [List.map_cons, mxlAll, rwD, mxl, List.length_cons, List.length_nil]
    omega
theorem rw_depth : ∀ es : List Rw, PyData.depthAll (es.map rwD) ≤ 1
  | [] => by simp [PyData.depthAll]
  | e :: r => by
    have := rw_depth r
    simp only [List.map_cons, PyData.depthAll, rwD, PyData.depth]
    omega
def spNear : Sp := fun vs H Q _ => ∃ (a : Addr) (many : Int), vs = [.ref a, .int many] ∧ DrawAt H a ∧ 1 ≤ many ∧ many ≤ 1000000000 ∧ ∀ (i : Int) (H' : Hp), (-(10 ^ 41) ≤ i ∧ i ≤ 10 ^ 41) → Gs.Ext a H H' → Q (.int i) H'
theorem ints_at {xs : List Int} {r : Int} (h0 : 0 ≤ r) (h1 : r < (xs.length : Int)) : ∃ n, n ∈ xs ∧ atI (xs.map V.int) r = some (.int n) := by
  have hk : r.toNat < xs.length := by omega
  refine ⟨xs[r.toNat], List.getElem_mem hk, at_of (j := r.toNat) (by omega) ?_⟩
  rw [List.getElem?_map, List.getElem?_eq_getElem hk]
  rfl
def movM (z : Sz) (way i n : Int) : Sz := if way = 0 then putM z i n else cutM z i n
def okM (z : Sz) (way i n : Int) : Prop := if way = 0 then goodP n else goodC z i n
def inM (z : Sz) (way i : Int) : Prop := 0 ≤ i ∧ i < z.many + 1 - way
def spTried5 (C : Addr) : Sp := fun vs H Q _ => ∃ (p d : Addr) (z : Sz) (way i n : Int), vs = [.ref p, .int way, .int i, .int n] ∧ SzW C H p d z ∧ Sm i ∧ Sm n ∧ (way = 0 ∨ way = 1) ∧ z.many ≤ 100000000 ∧
  (¬ inM z way i → ∀ H', Same H H' → Q (.str "NoIndex") H') ∧ (inM z way i → ¬ okM z way i n → ∀ H', Same H H' → Q (.str "BadMany") H') ∧
  (inM z way i → okM z way i n → ∀ (d' : Addr) (H' : Hp), H d' = none → Frm p H H' → SzW C H' p d' (movM z way i n) → Q .non H')
def spRowsOf (C : Addr) : Sp := fun vs H Q _ => ∃ (a p d : Addr) (many c : Int), vs = [.ref a, .ref p, .int many, .int c] ∧ DrawAt H a ∧ SzW C H p d ⟨many, c, []⟩ ∧ many ≤ 12 ∧
  ∀ (s : Sz) (l : Addr) (xs : List V) (H' : Hp), DrawAt H' a → SzW C H' p d s → s.many = many → s.common = c → H' l = some (.lst xs) → l ≠ a → DpR H' xs (rowsM s) → Q (.ref l) H'
theorem DpR.refs {H : Hp} : ∀ {xs : List V} {cs : List Rw}, DpR H xs cs → ∀ v ∈ xs, ∃ t, v = .ref t
  | _, _, .nil, v, h => nomatch h
  | _, _, .cons ⟨t, e, _⟩ r, v, h => by
    rcases List.mem_cons.mp h with rfl | h
    · exact ⟨t, e⟩
    · exact DpR.refs r v h
/-- the rows are no part of a draw -/
theorem DpR.apart {H : Hp} {a l : Addr} {xs : List V} {rs : List Rw} (D : DrawAt H a) (h : H l = some (.lst xs)) (r : DpR H xs rs) (ne : rs ≠ []) : ∃ (l0 : Addr) (ns : List Int) (i left seed n : Int), H a = some (drawO l0 i left seed n) ∧ H l0 = some (.lst (ns.map V.int)) ∧ 0 ≤ i ∧ 0 ≤ seed ∧ seed < 1000000007 ∧ l ≠ a ∧ l ≠ l0 := by
  obtain ⟨l0, ns, i, left, seed, n, h1, h2, b1, b2, b3⟩ := D
  have nx : xs ≠ [] := by
    intro e
    have := r.len
    rw [e] at this
    exact ne (List.length_eq_zero_iff.mp this.symm)
  refine ⟨l0, ns, i, left, seed, n, h1, h2, b1, b2, b3, ?_, ?_⟩
  · refine ne_of h h1 ?_
    intro e
    unfold drawO at e
    injection e with e
    obtain ⟨t, et⟩ := r.refs (.int i) (by rw [e]; simp)
    cases et
  · refine ne_of h h2 ?_
    intro e
    injection e with e
    cases ns with
    | nil => exact nx e
    | cons m rest =>
      obtain ⟨t, et⟩ := r.refs (.int m) (by rw [e]; simp)
      cases et
theorem DpR.draw {H : Hp} {a l : Addr} {xs : List V} {rs : List Rw} (D : DrawAt H a) (h : H l = some (.lst xs)) (r : DpR H xs rs) (ne : rs ≠ []) (o : HO) : DrawAt (upd H l o) a := by
  obtain ⟨l0, ns, i, left, seed, n, h1, h2, b1, b2, b3, n1, n2⟩ := r.apart D h ne
  exact ⟨l0, ns, i, left, seed, n, by rw [upd_ne n1.symm]; exact h1, by rw [upd_ne n2.symm]; exact h2, b1, b2, b3⟩
theorem nls_upd {H : Hp} {l : Addr} {xs : List V} (h : H l = some (.lst xs)) (o : HO) : Nls H (upd H l o) := fun b u n q => by rw [upd_ne (ne_of q h (n _))]; exact q
theorem Nls.tup {H H' : Hp} (e : Nls H H') : TupSame H H' := fun t xs q => e _ _ (fun _ z => by cases z) q
theorem Frm.tup {d : Addr} {H H' : Hp} {u : HO} (f : Frm d H H') (h : H d = some u) (hu : ∀ xs, u ≠ .tup xs) : TupSame H H' := fun t xs q => f _ _ (ne_of q h (fun e => hu xs e.symm)) q
theorem rows_ne {z : Sz} (h : 1 ≤ z.many) : rowsM z ≠ [] := by
  intro e
  have := rows_len z
  rw [e] at this
  simp at this
  omega
theorem ix_nat {n j : Nat} (hj : j < n) : ixN n (j : Int) = some j := by
  unfold ixN
  rw [if_pos (show (0 : Int) ≤ (j : Int) by omega), if_pos (show (j : Int) < (n : Int) by omega), Int.toNat_natCast]
theorem cut_take {xs : List V} {k : Int} (h0 : 0 ≤ k) (h1 : k ≤ (xs.length : Int)) : cutV xs none (some k) = xs.take k.toNat := by
  unfold cutV
  have e1 : HT.sIx xs.length 0 none = 0 := rfl
  have e2 : HT.sIx xs.length xs.length (some k) = k.toNat := by
    show (if k < 0 then (k + (xs.length : Int)).toNat else min k.toNat xs.length) = k.toNat
    rw [if_neg (by omega)]
    omega
  rw [e1, e2, List.drop_zero, Nat.sub_zero]
theorem cut_drop {xs : List V} {k : Int} (h0 : 0 ≤ k) (h1 : k ≤ (xs.length : Int)) : cutV xs (some k) none = xs.drop k.toNat := by
  unfold cutV
  have e1 : HT.sIx xs.length xs.length none = xs.length := rfl
  have e2 : HT.sIx xs.length 0 (some k) = k.toNat := by
    show (if k < 0 then (k + (xs.length : Int)).toNat else min k.toNat xs.length) = k.toNat
    rw [if_neg (by omega)]
    omega
  rw [e1, e2, List.take_of_length_le]
  rw [List.length_drop]
  omega
theorem DrawAt.frmU {H H' : Hp} {a d : Addr} {u : HO} (D : DrawAt H a) (hd : H d = some u) (hu : ∀ xs, u ≠ .lst xs) (f : Frm d H H') : DrawAt H' a := by
  obtain ⟨l, ns, i, left, seed, n, h1, h2, r⟩ := D
  exact ⟨l, ns, i, left, seed, n, f _ _ (ne_of h1 hd (fun e => hu _ e.symm)) h1, f _ _ (ne_of h2 hd (fun e => hu _ e.symm)) h2, r⟩
end Gs

set_option Elab.async false
set_option linter.all false
set_option maxRecDepth 100000
set_option maxHeartbeats 4000000
namespace Gs
open PySem L2
/-! ### the law's own dict, moved -/
def gof (put : Bool) (i n : Int) : Int → Option Int := if put = true then fPut i n else fCut i n
def wayS (put : Bool) : Str := if put = true then "put" else "cut"
theorem inj_gof {put : Bool} {i n : Int} (h : 0 ≤ n) : Inj (gof put i n) := by
  unfold gof
  cases put
  · exact inj_cut h
  · exact inj_put h
def spGo : Sp := fun vs H Q _ => ∃ (put : Bool) (i n k : Int), vs = [.str (wayS put), .int i, .int n, .int k] ∧ Q (((gof put i n k).map V.int).getD .non) H
def zonM (z : Zs) (put : Bool) (i n : Int) : Zs := ⟨if put = true then z.many + n else z.many - n, z.common, z.own.filterMap fun e => (gof put i n e.1).map fun k => (k, e.2), z.gone.filterMap (gof put i n)⟩
def movM' (s : Sz) (put : Bool) (i n : Int) : Sz := if put = true then putM s i n else cutM s i n
theorem zown_mov {f : Int → Option Int} (fi : Inj f) {a k : Int} (h : f a = some k) : ∀ own : List (Int × Int), zown (own.filterMap fun e => (f e.1).map fun j => (j, e.2)) k = zown own a
  | [] => rfl
  | e :: r => by
    have ih := zown_mov fi h r
    rw [zown_cons]
    cases q : f e.1 with
    | none =>
      have : ((e :: r).filterMap fun e => (f e.1).map fun j => (j, e.2)) = r.filterMap fun e => (f e.1).map fun j => (j, e.2) := by simp [q]
      rw [this, ih, if_neg]
      intro z
      rw [z, h] at q
      cases q
    | some c =>
      have : ((e :: r).filterMap fun e => (f e.1).map fun j => (j, e.2)) = (c, e.2) :: r.filterMap fun e => (f e.1).map fun j => (j, e.2) := by simp [q]
      rw [this, zown_cons, ih]
      by_cases hc : c = k
      · subst hc
        have := fi _ _ _ q h
        rw [if_pos rfl, if_pos this]
      · rw [if_neg hc, if_neg]
        intro z
        rw [z, h] at q
        exact hc (Option.some.inj q).symm
theorem zown_mov0 {f : Int → Option Int} {k : Int} (h : ∀ a, f a ≠ some k) (own : List (Int × Int)) : zown (own.filterMap fun e => (f e.1).map fun j => (j, e.2)) k = none := by
  cases q : zown (own.filterMap fun e => (f e.1).map fun j => (j, e.2)) k with
  | none => rfl
  | some x =>
    have hm := zown_mem q
    obtain ⟨u, _, h1⟩ := List.mem_filterMap.mp hm
    cases q2 : f u.1 with
    | none => rw [q2] at h1; cases h1
    | some c =>
      rw [q2] at h1
      have := Option.some.inj h1
      injection this with e1 e2
      rw [e1] at q2
      exact absurd q2 (h _)
theorem gone_mov {f : Int → Option Int} (fi : Inj f) {a k : Int} (h : f a = some k) (gone : List Int) : k ∈ gone.filterMap f ↔ a ∈ gone := by
  rw [List.mem_filterMap]
  constructor
  · rintro ⟨b, hb, e⟩
    rw [fi _ _ _ h e]
    exact hb
  · intro ha
    exact ⟨a, ha, h⟩
theorem gone_mov0 {f : Int → Option Int} {k : Int} (h : ∀ a, f a ≠ some k) (gone : List Int) : ¬ k ∈ gone.filterMap f := by
  rw [List.mem_filterMap]
  rintro ⟨b, _, e⟩
  exact h b e
/-- where a thing comes from -/
theorem zon_at {z : Zs} {put : Bool} {i n a k : Int} (hn : 0 ≤ n) (h : gof put i n a = some k) : zst (zonM z put i n) k = zst z a := by
  refine Prod.ext ?_ ?_
  · show (zown (z.own.filterMap fun e => (gof put i n e.1).map fun j => (j, e.2)) k).getD z.common = (zown z.own a).getD z.common
    rw [zown_mov (inj_gof hn) h]
  · show decide (k ∈ z.gone.filterMap (gof put i n)) = decide (a ∈ z.gone)
    exact decide_eq_decide.mpr (gone_mov (inj_gof hn) h z.gone)
theorem zon_at0 {z : Zs} {put : Bool} {i n k : Int} (h : ∀ a, gof put i n a ≠ some k) : zst (zonM z put i n) k = (z.common, false) := by
  refine Prod.ext ?_ ?_
  · show (zown (z.own.filterMap fun e => (gof put i n e.1).map fun j => (j, e.2)) k).getD z.common = z.common
    rw [zown_mov0 h]
    rfl
  · show decide (k ∈ z.gone.filterMap (gof put i n)) = false
    exact decide_eq_false (gone_mov0 h z.gone)
theorem zon_st {s : Sz} {z : Zs} {put : Bool} {i n : Int} (hn : 0 ≤ n) (R : Rel s z) (k : Int) : stM (movM' s put i n) k = zst (zonM z put i n) k := by
  cases put
  · show stM (cutM s i n) k = _
    rw [cut_st hn]
    by_cases h : k < i
    · rw [if_pos h, R.st k, zon_at (a := k) hn (by show fCut i n k = some k; unfold fCut; rw [if_pos h])]
    · rw [if_neg h, R.st, zon_at (a := k + n) hn (by show fCut i n (k + n) = some k; unfold fCut; rw [if_neg (by omega), if_pos (by omega), show k + n - n = k by omega])]
  · show stM (putM s i n) k = _
    rw [put_st hn]
    by_cases h : k < i
    · rw [if_pos h, R.st k, zon_at (a := k) hn (by show fPut i n k = some k; unfold fPut; rw [if_pos h])]
    · rw [if_neg h]
      by_cases h2 : k < i + n
      · rw [if_pos h2, zon_at0, R.common]
        intro a q
        have : (if a < i then a else a + n) = k := Option.some.inj q
        split at this <;> omega
      · rw [if_neg h2, R.st, zon_at (a := k - n) hn (by show fPut i n (k - n) = some k; unfold fPut; rw [if_neg (by omega), show k - n + n = k by omega])]
theorem nodup_fm {f : Int → Option Int} (fi : Inj f) : ∀ {l : List Int}, l.Nodup → (l.filterMap f).Nodup
  | [], _ => by simp
  | a :: r, nd => by
    rw [List.nodup_cons] at nd
    have ih := nodup_fm fi nd.2
    cases q : f a with
    | none => rw [List.filterMap_cons_none q]; exact ih
    | some k =>
      rw [List.filterMap_cons_some q, List.nodup_cons]
      refine ⟨fun hm => ?_, ih⟩
      obtain ⟨b, hb, e⟩ := List.mem_filterMap.mp hm
      exact nd.1 (by rw [fi _ _ _ q e]; exact hb)
theorem zon_keys (f : Int → Option Int) (own : List (Int × Int)) : (own.filterMap fun e => (f e.1).map fun j => (j, e.2)).map (·.1) = (own.map (·.1)).filterMap f := by
  induction own with
  | nil => rfl
  | cons e r ih =>
    rw [List.map_cons]
    cases q : f e.1 with
    | none =>
      have : ((e :: r).filterMap fun e => (f e.1).map fun j => (j, e.2)) = r.filterMap fun e => (f e.1).map fun j => (j, e.2) := by simp [q]
      rw [this, List.filterMap_cons_none q, ih]
    | some c =>
      have : ((e :: r).filterMap fun e => (f e.1).map fun j => (j, e.2)) = (c, e.2) :: r.filterMap fun e => (f e.1).map fun j => (j, e.2) := by simp [q]
      rw [this, List.filterMap_cons_some q, List.map_cons, ih]
theorem zon_w {z : Zs} {put : Bool} {i n : Int} (hn : 0 ≤ n) (w : Zw z) : Zw (zonM z put i n) := by
  refine ⟨?_, ?_, nodup_fm (inj_gof hn) w.ng⟩
  · show ((z.own.filterMap fun e => (gof put i n e.1).map fun j => (j, e.2)).map (·.1)).Nodup
    rw [zon_keys]
    exact nodup_fm (inj_gof hn) w.nd
  · intro e he
    obtain ⟨u, hu, h1⟩ := List.mem_filterMap.mp he
    cases q : gof put i n u.1 with
    | none => rw [q] at h1; cases h1
    | some c =>
      rw [q] at h1
      have := Option.some.inj h1
      rw [← this]
      exact w.ne u hu
/-- a row put in or cut out in both -/
theorem rel_on {s : Sz} {z : Zs} {put : Bool} {i n : Int} (hn : 0 ≤ n) (W' : Wf (movM' s put i n)) (w : Zw z) (R : Rel s z) : Rel (movM' s put i n) (zonM z put i n) := by
  refine rel_mk W' (zon_w hn w) ?_ ?_ (zon_st hn R)
  · cases put
    · show s.many - n = z.many - n
      rw [R.many]
    · show s.many + n = z.many + n
      rw [R.many]
  · cases put <;> exact R.common
/-! ### a dict moved, entry by entry -/
def mvK (f : Int → Option Int) (kvs : List (Int × V)) : List (Key × V) := kvs.filterMap fun e => (f e.1).map fun k => (Sum.inl k, e.2)
def rawK (kvs : List (Int × V)) : List (Key × V) := kvs.map fun e => (Sum.inl e.1, e.2)
theorem mvK_snoc {f : Int → Option Int} {kvs : List (Int × V)} {j : Nat} {e : Int × V} (h : kvs[j]? = some e) : mvK f (kvs.take (j + 1)) = mvK f (kvs.take j) ++ (match f e.1 with | some k => [(Sum.inl k, e.2)] | none => []) := by
  unfold mvK
  rw [List.take_add_one, h, List.filterMap_append]
  congr 1
  cases q : f e.1 with
  | none => simp [q]
  | some k => simp [q]
theorem mvK_put {f : Int → Option Int} (fi : Inj f) {kvs : List (Int × V)} (nd : (kvs.map (·.1)).Nodup) {j : Nat} {e : Int × V} (h : kvs[j]? = some e) {k : Int} (hk : f e.1 = some k) : putK (mvK f (kvs.take j)) (Sum.inl k) e.2 = mvK f (kvs.take (j + 1)) := by
  rw [mvK_snoc h, hk]
  unfold putK
  rw [if_neg]
  intro c
  rw [List.any_eq_true] at c
  obtain ⟨x, hx, e1⟩ := c
  have e1' : x.1 = Sum.inl k := of_decide_eq_true e1
  unfold mvK at hx
  obtain ⟨u, hu, h1⟩ := List.mem_filterMap.mp hx
  cases q : f u.1 with
  | none => rw [q] at h1; cases h1
  | some c =>
    rw [q] at h1
    have := Option.some.inj h1
    rw [← this] at e1'
    have ec : c = k := by injection e1'
    rw [ec] at q
    have eu : u.1 = e.1 := fi _ _ _ q hk
    have sp : kvs = kvs.take j ++ e :: kvs.drop (j + 1) := by
      have hj : j < kvs.length := (List.getElem?_eq_some_iff.mp h).1
      have : kvs.drop j = e :: kvs.drop (j + 1) := by
        rw [List.drop_eq_getElem_cons hj]
        rw [List.getElem?_eq_getElem hj] at h
        rw [Option.some.inj h]
      rw [← this, List.take_append_drop]
    rw [sp, List.map_append, List.nodup_append] at nd
    exact absurd eu (nd.2.2 u.1 (List.mem_map_of_mem hu) e.1 (by simp))
theorem rawK_at {kvs : List (Int × V)} {j : Nat} {k : Key} {v : V} (h : (rawK kvs)[j]? = some (k, v)) : ∃ e, kvs[j]? = some e ∧ k = Sum.inl e.1 ∧ v = e.2 := by
  unfold rawK at h
  rw [List.getElem?_map] at h
  cases q : kvs[j]? with
  | none => rw [q] at h; cases h
  | some e =>
    rw [q] at h
    have := Option.some.inj h
    injection this with a b
    exact ⟨e, rfl, a.symm, b.symm⟩
theorem rawK_val : ∀ {kvs : List (Int × V)} (nd : (kvs.map (·.1)).Nodup) {e : Int × V} (h : e ∈ kvs), valV (rawK kvs) (Sum.inl e.1) = some e.2
  | [], _, e, h => nomatch h
  | u :: r, nd, e, h => by
    rw [List.map_cons, List.nodup_cons] at nd
    show valV ((Sum.inl u.1, u.2) :: rawK r) (Sum.inl e.1) = some e.2
    rcases List.mem_cons.mp h with rfl | h
    · exact valV_pos rfl
    · rw [valV_neg]
      · exact rawK_val nd.2 h
      · intro z
        have z' : u.1 = e.1 := by injection z
        exact nd.1 (by rw [z']; exact List.mem_map_of_mem h)
def ownV (own : List (Int × Int)) : List (Int × V) := own.map fun e => (e.1, .int e.2)
def goneV (gone : List Int) : List (Int × V) := gone.map fun k => (k, .bl true)
theorem raw_own (own : List (Int × Int)) : rawK (ownV own) = ownK own := by unfold rawK ownV ownK; rw [List.map_map]; rfl
theorem raw_gone (gone : List Int) : rawK (goneV gone) = goneK gone := by unfold rawK goneV goneK; rw [List.map_map]; rfl
theorem mv_own (f : Int → Option Int) (own : List (Int × Int)) : mvK f (ownV own) = ownK (own.filterMap fun e => (f e.1).map fun k => (k, e.2)) := by
  unfold mvK ownV ownK
  rw [List.filterMap_map, List.map_filterMap]
  congr 1
  funext e
  show (f e.1).map (fun k => (Sum.inl k, V.int e.2)) = ((f e.1).map fun k => (k, e.2)).map fun e => (Sum.inl e.1, V.int e.2)
  cases f e.1 <;> rfl
theorem mv_gone (f : Int → Option Int) (gone : List Int) : mvK f (goneV gone) = goneK (gone.filterMap f) := by
  unfold mvK goneV goneK
  rw [List.filterMap_map, List.map_filterMap]
  rfl
def spZon : Sp := fun vs H Q _ => ∃ (a o g : Addr) (z : Zs) (put : Bool) (i n : Int), vs = [.ref a, .str (wayS put), .int i, .int n] ∧ ZAt H a o g z ∧ Zw z ∧ 0 ≤ n ∧ 1 ≤ (zonM z put i n).many ∧ (zonM z put i n).many ≤ 1000000000 ∧
  ∀ (a' o' g' : Addr) (H' : Hp), Same H H' → ZH H' a' o' g' (zonM z put i n) → H a' = none → H o' = none → H g' = none → Q (.ref a') H'
def spZmv (put : Bool) : Sp := fun vs H Q _ => ∃ (a o g : Addr) (z : Zs) (i n : Int), vs = [.ref a, .int i, .int n] ∧ ZAt H a o g z ∧ Zw z ∧ 0 ≤ n ∧ 1 ≤ (zonM z put i n).many ∧ (zonM z put i n).many ≤ 1000000000 ∧
  ∀ (a' o' g' : Addr) (H' : Hp), Same H H' → ZH H' a' o' g' (zonM z put i n) → H a' = none → H o' = none → H g' = none → Q (.ref a') H'
/-- what k07 tries: a size of 50, or hiding -/
def tryM (z : Sz) (i way : Int) : Int × Bool := if way = 0 then (50, (stM z i).2) else ((stM z i).1, true)
def spFull (C : Addr) : Sp := fun vs H Q _ => ∃ (p d : Addr) (z : Sz) (i way : Int), vs = [.ref p, .int i, .int way] ∧ SzW C H p d z ∧ inR z i ∧ (way = 0 ∨ way = 1) ∧
  (¬ (if way = 0 then fullM z i 50 (stM z i).2 else fullM z i (stM z i).1 true) → ∀ H', Frm d H H' → SzW C H' p d (if way = 0 then keepM z i 50 (stM z i).2 else keepM z i (stM z i).1 true) → Q (.bl false) H') ∧
  ((if way = 0 then fullM z i 50 (stM z i).2 else fullM z i (stM z i).1 true) → ∀ H', Same H H' → Q (.bl true) H')
end Gs

set_option Elab.async false
set_option linter.all false
set_option maxRecDepth 100000
set_option maxHeartbeats 4000000
namespace Gs
open PySem L2
/-! ### both, made of their parts -/
theorem Both.of {C : Addr} {H : Hp} {p d a o g : Addr} {s : Sz} {z : Zs} (S : SzW C H p d s) (Z : ZH H a o g z) (w : Zw z) (R : Rel s z) (da : d ≠ a) (dO : d ≠ o) (dg : d ≠ g) : Both C H p d a o g s z :=
  ⟨S, ⟨Z.ha, Z.ho, Z.hg, Z.ao, Z.ag, Z.og, zok_of S.wf w R⟩, R, w, da, dO, dg⟩
theorem ZH.at_ {H : Hp} {a o g : Addr} {s : Sz} {z : Zs} (Z : ZH H a o g z) (W : Wf s) (w : Zw z) (R : Rel s z) : ZAt H a o g z := ⟨Z.ha, Z.ho, Z.hg, Z.ao, Z.ag, Z.og, zok_of W w R⟩
/-- one deed in both models -/
theorem rel_keep {s : Sz} {z : Zs} {i own : Int} {hid : Bool} (W : Wf (keepM s i own hid)) (w : Zw z) (R : Rel s z) : Rel (keepM s i own hid) (zwithM z i own hid) :=
  rel_mk W (zwith_w w i own hid) R.many R.common fun k => by rw [keep_st, zwith_st, R.st k]
theorem keep_look {s : Sz} {i own : Int} {hid : Bool} (h : ¬ (own = s.common ∧ hid = false)) (k : Int) : look (keepM s i own hid).odd k = if k = i then some (own, hid) else look s.odd k := by
  unfold keepM
  simp only [if_neg h]
  exact look_put _ _ _ _
theorem keep_look0 {s : Sz} {i own : Int} {hid : Bool} (h : own = s.common ∧ hid = false) (k : Int) : look (keepM s i own hid).odd k = if k = i then none else look s.odd k := by
  unfold keepM
  simp only [if_pos h]
  exact look_drop _ _ _
theorem keep_len_new {s : Sz} {i own : Int} {hid : Bool} (h : ¬ (own = s.common ∧ hid = false)) (n : look s.odd i = none) : (keepM s i own hid).odd.length = s.odd.length + 1 := by
  unfold keepM
  simp only [if_neg h]
  unfold putO
  rw [look_any, n]
  simp
theorem keep_len_old {s : Sz} {i own : Int} {hid : Bool} (h : ¬ (own = s.common ∧ hid = false)) {x : Int × Bool} (n : look s.odd i = some x) : (keepM s i own hid).odd.length = s.odd.length := by
  unfold keepM
  simp only [if_neg h]
  unfold putO
  rw [look_any, n]
  simp
theorem drop_lt {odd : List OddE} {i : Int} {x : Int × Bool} (n : look odd i = some x) : (dropO odd i).length < odd.length := by
  unfold dropO
  have m := look_mem n
  exact List.length_filter_lt_length_iff_exists.mpr ⟨_, m, by simp⟩
theorem keep_len_less {s : Sz} {i own : Int} {hid : Bool} (h : own = s.common ∧ hid = false) {x : Int × Bool} (n : look s.odd i = some x) : (keepM s i own hid).odd.length < s.odd.length := by
  unfold keepM
  simp only [if_pos h]
  exact drop_lt n
theorem drop_none {odd : List OddE} {i : Int} (n : look odd i = none) : dropO odd i = odd := by
  unfold dropO
  refine List.filter_eq_self.mpr fun e he => ?_
  refine decide_eq_true fun c => ?_
  have : i ∈ odd.map (·.1) := List.mem_map.mpr ⟨e, he, c⟩
  rw [look_key, n] at this
  cases this
theorem keep_noop {s : Sz} {i own : Int} {hid : Bool} (h : own = s.common ∧ hid = false) (n : look s.odd i = none) : keepM s i own hid = s := by
  unfold keepM
  simp only [if_pos h]
  rw [drop_none n]
theorem st_none {s : Sz} {i : Int} (n : look s.odd i = none) : stM s i = (s.common, false) := by
  unfold stM
  rw [n]
  rfl
theorem mov_lt {f : Int → Option Int} {odd : List OddE} {i : Int} {x : Int × Bool} (h : f i = none) (n : look odd i = some x) : (movO f odd).length < odd.length := by
  have m := look_mem n
  unfold movO
  rw [List.length_filterMap_eq_countP, List.countP_eq_length_filter]
  exact List.length_filter_lt_length_iff_exists.mpr ⟨_, m, by simp [h]⟩
/-! ### a list of ints beside the draw -/
theorem DrawAt.neI {H : Hp} {a l : Addr} {ns : List Int} (D : DrawAt H a) (h : H l = some (.lst (ns.map V.int))) : l ≠ a := by
  obtain ⟨_, _, _, _, _, _, h1, _⟩ := D
  refine ne_of h h1 ?_
  intro e
  unfold drawO at e
  cases ns with
  | nil => simp at e
  | cons x r => simp at e
theorem DrawAt.ints {H : Hp} {a l : Addr} (D : DrawAt H a) (n : l ≠ a) (ms : List Int) : DrawAt (upd H l (.lst (ms.map V.int))) a := by
  obtain ⟨l0, ns, i, left, seed, m, h1, h2, r⟩ := D
  by_cases e : l0 = l
  · subst e
    exact ⟨l0, ms, i, left, seed, m, by rw [upd_ne n.symm]; exact h1, upd_same, r⟩
  · exact ⟨l0, ns, i, left, seed, m, by rw [upd_ne n.symm]; exact h1, by rw [upd_ne e]; exact h2, r⟩
def natsI (n : Int) : List Int := (List.range n.toNat).map fun (i : Nat) => (i : Int)
theorem rg_nats (n : Int) : rgV 0 n = (natsI n).map V.int := by
  unfold rgV natsI
  rw [List.map_map]
  simp
theorem natsI_nd (n : Int) : (natsI n).Nodup := by
  unfold natsI
  exact List.Pairwise.map _ (fun a b (h : a ≠ b) => by intro e; exact h (Int.ofNat.inj e)) List.nodup_range
theorem natsI_len (n : Int) : (natsI n).length = n.toNat := by unfold natsI; rw [List.length_map, List.length_range]
theorem natsI_mem {n k : Int} (h : k ∈ natsI n) : 0 ≤ k ∧ k < n := by
  unfold natsI at h
  obtain ⟨i, hi, e⟩ := List.mem_map.mp h
  rw [List.mem_range] at hi
  omega
theorem seq_nat {i : Int} {n : Nat} (h0 : 0 ≤ i) (h1 : i < n) : seqIndex? i n = some i.toNat := by
  have a1 : ¬ i < 0 := by omega
  have a2 : (decide (0 ≤ i) && decide (i < (n : Int))) = true := by rw [decide_eq_true h0, decide_eq_true h1]; rfl
  unfold seqIndex?
  simp only [if_neg a1]
  rw [if_pos a2]
theorem erase_map {α β : Type} (f : α → β) : ∀ (l : List α) (k : Nat), (l.map f).eraseIdx k = (l.eraseIdx k).map f
  | [], _ => rfl
  | _ :: _, 0 => rfl
  | x :: r, k + 1 => by
    simp only [List.map_cons, List.eraseIdx_cons_succ, List.map_cons]
    rw [erase_map f r k]
/-- what is left to be taken: its list, apart from what is set or hidden -/
structure LeftAt (H : Hp) (l : Addr) (ns : List Int) (many : Int) (s : Sz) (j : Nat) : Prop where
  h : H l = some (.lst (ns.map V.int))
  nd : ns.Nodup
  le : ns.length + j = many.toNat
  ok : ∀ n ∈ ns, 0 ≤ n ∧ n < many ∧ look s.odd n = none
end Gs
namespace Gs
open PySem L2
theorem at_last {ns : List Int} (h : ns ≠ []) : ∃ n, n ∈ ns ∧ atI (ns.map V.int) (-1) = some (.int n) := by
  have l0 : 0 < ns.length := List.length_pos_iff.mpr h
  have hk : ns.length - 1 < ns.length := by omega
  refine ⟨ns[ns.length - 1], List.getElem_mem hk, ?_⟩
  unfold atI ixN
  rw [List.length_map, if_neg (by decide), if_pos (by omega)]
  show (ns.map V.int)[((-1 : Int) + (ns.length : Int)).toNat]? = _
  rw [show ((-1 : Int) + (ns.length : Int)).toNat = ns.length - 1 by omega, List.getElem?_map, List.getElem?_eq_getElem hk]
  rfl
theorem sum_ge {f : Int → Int} {c : Int} (h : ∀ k, -c ≤ f k) : ∀ l : List Int, -(c * (l.length : Int)) ≤ (l.map f).sum
  | [] => by simp
  | x :: r => by
    have ih := sum_ge h r
    have hx := h x
    simp only [List.map_cons, List.sum_cons, List.length_cons]
    have e : c * ((r.length + 1 : Nat) : Int) = c * (r.length : Int) + c := by
      rw [show ((r.length + 1 : Nat) : Int) = (r.length : Int) + 1 by omega, Int.mul_add, Int.mul_one]
    rw [e]
    omega
/-- where more things are than may be hidden, something counts -/
theorem ah_pos {z : Sz} (W : Wf z) {i : Int} (h : 60 < i) : 1 ≤ ahM z i := by
  unfold ahM
  obtain ⟨l, el⟩ : ∃ l, l = (z.odd.map (·.1)).filter fun k => decide (k < i) := ⟨_, rfl⟩
  rw [← el]
  have hl : l.length ≤ 60 := by
    rw [el]
    refine Nat.le_trans (List.length_filter_le _ _) ?_
    rw [List.length_map]
    exact W.le
  have hs := sum_ge (f := fun k => szM z k - z.common) (c := z.common) (fun k => by have := (sz_range W k).1; omega) l
  have c0 := W.c0
  have hm : 0 < (i - (l.length : Int)) * z.common := Int.mul_pos (by omega) (by omega)
  rw [Int.sub_mul, Int.mul_comm (l.length : Int)] at hm
  omega
def spZat : Sp := fun vs H Q _ => ∃ (a o g : Addr) (s : Sz) (z : Zs) (pt : Int), vs = [.ref a, .int pt] ∧ ZAt H a o g z ∧ Rel s z ∧ Wf s ∧ 0 ≤ pt ∧ pt < ahM s s.many ∧ s.many ≤ 1048576 ∧
  ∀ (k : Int) (t : Addr) (H' : Hp), inR s k → ahM s k ≤ pt → pt < ahM s k + szM s k → Same H H' → H' t = some (.tup [.int k, .int (pt - ahM s k)]) → Q (.ref t) H'
theorem pow_half (j : Nat) : 2 ^ (20 - j) ≤ 2 * 2 ^ (20 - (j + 1)) ∧ 1 ≤ 2 ^ (20 - (j + 1)) := by
  refine ⟨?_, Nat.one_le_two_pow⟩
  by_cases h : j < 20
  · rw [show 20 - j = (20 - (j + 1)) + 1 by omega, Nat.pow_succ]
    omega
  · rw [show 20 - j = 0 by omega, show 20 - (j + 1) = 0 by omega]
    decide
end Gs

set_option Elab.async false
set_option linter.all false
set_option maxRecDepth 100000
set_option maxHeartbeats 4000000
namespace K04
open PySem L2 Gs
def top (i : Nat) : Stmt := PySem.Challenge.pw_gridscope_k04_whole_great_sizes.main.body.getD i (.Pass ⟨0, 0, 0, 0⟩)
structure Tx (K : PySem.W.Frag) (mg : Str → Option Value) (C cN cP cM cS cF : Addr) (tG tM tQ tR : Tok) : Prop where
  no_max : mg "max" = none
  no_min : mg "min" = none
  no_len : mg "len" = none
  no_list : mg "list" = none
  no_isinstance : mg "isinstance" = none
  no_bool : mg "bool" = none
  no_int : mg "int" = none
  no_str : mg "str" = none
  no_tuple : mg "tuple" = none
  no_range : mg "range" = none
  no_all : mg "all" = none
  no_sum : mg "sum" = none
  no_sorted : mg "sorted" = none
  no_any : mg "any" = none
  no_dict : mg "dict" = none
  no_repr : mg "repr" = none
  mg_GREATEST_SIZE : mg "GREATEST_SIZE" = some (.int 60 tG)
  mg_MOST_THINGS : mg "MOST_THINGS" = some (.int 1000000 tM)
  cl : Cls K C
  n_many : NoAttr K C "many"
  n_common : NoAttr K C "common"
  n_odd : NoAttr K C "odd"
  mgC : mg "Sizes" = some (.ref C)
  ins : C8.InsC K C
  x_NoIndex : ExcOk K mg "NoIndex" cN ieL "IndexError.__new__"
  x_BadMany : ExcOk K mg "BadMany" cM veL "ValueError.__new__"
  x_BadSize : ExcOk K mg "BadSize" cS veL "ValueError.__new__"
  x_NoPoint : ExcOk K mg "NoPoint" cP ieL "IndexError.__new__"
  x_Full : ExcOk K mg "Full" cF veL "ValueError.__new__"
  mg_MOST_ODD : mg "MOST_ODD" = some (.int 60 tQ)
  mg_MOST_PUT : mg "MOST_PUT" = some (.int 1000 tR)
section
variable {P : Program} {w : World} {K : PySem.W.Frag} {mg : Str → Option Value} {base : Heap} {f : Addr} {fd : FuncData} {C cN cP cM cS cF : Addr} {tG tM tQ tR : Tok}
abbrev s_check_size : Stmt := top 15
theorem sc_check_size : FnScope ["size"] ["size"] (defScope s_check_size) := ⟨rfl, rfl, rfl, by decide +kernel, rfl, by decide +kernel, by decide +kernel⟩
theorem ok_cs (F : Fun K "check_size" "check_size" s_check_size f fd) (T : Tx K mg C cN cP cM cS cF tG tM tQ tR)  : FnOk P w K mg base (L2.CX P w) 1 f fd ["size"] (spCS cS) := by
  refine F.okX sc_check_size (fun vs H Q E h => ?_) (fun cdv A outer s H vs Q E hr h => ?_)
  · obtain ⟨i, rfl, _⟩ := h
    rfl
  · obtain ⟨i, rfl, hi, k1, k2⟩ := h
    refine ⟨_, (pss_one (ps_if (PW.pt (pw_or (pt_cmpR op_lt (pv 0) pe_int (nomark _)) (pw_or1 (pt_cmpR op_gt (pv 0) (glI (by rfl) T.mg_GREATEST_SIZE) (nomark _))))) (pss_one (ps_raise rfl (takes_of rfl rfl rfl rfl) (SkE.pmk_own1 PySem.F.excBase_ValueError T.x_BadSize.ex T.x_BadSize.g T.x_BadSize.kp (raises_own T.x_BadSize.b T.x_BadSize.t) (by rfl) (pe_joined (.cons (pe_fmt (pv 0)) (.cons pe_str (.cons (pe_fmt (glI (by rfl) T.mg_GREATEST_SIZE)) .nil))))))) pss_nil)), ?_⟩
    have bad : ¬ (1 ≤ i ∧ i ≤ 60) → tJs [tFmt (tVar 0), tC (.str " is no size from 1 to "), tFmt (tC (.int 60))] Str.empty (start ["size"] [.int i]) H fun _ H1 => E (.ref cS) none H1 := fun no => by
      have l1 := hi.len
      refine ⟨_, rfl, .inr ⟨_, rfl, hi.log, _, rfl, ?_, _, rfl, ?_, .inr ⟨_, rfl, by decide, _, rfl, ?_, k2 no⟩⟩⟩
      · exact small (by rw [PySem.Str.length_append]; show 0 + _ ≤ 1000; omega)
      · exact small (by rw [PySem.Str.length_append, PySem.Str.length_append]; show 0 + _ + 22 ≤ 1000; omega)
      · exact small (by rw [PySem.Str.length_append, PySem.Str.length_append, PySem.Str.length_append]; show 0 + _ + 22 + 2 ≤ 1000; omega)
    refine ⟨_, rfl, _, _, rfl, rfl, _, rfl, ?_⟩
    refine ite2 (fun c => ?_) (fun c => ?_)
    · have c' : i < 1 := of_decide_eq_true c
      exact ifT rfl (bad (by omega))
    · have c' : ¬ i < 1 := fun q => c (decide_eq_true q)
      refine ⟨_, rfl, _, _, rfl, rfl, _, rfl, ?_⟩
      refine ite2 (fun c2 => ?_) (fun c2 => ?_)
      · have c2' : (60 : Int) < i := of_decide_eq_true c2
        exact bad (by omega)
      · have c2' : ¬ (60 : Int) < i := fun q => c2 (decide_eq_true q)
        exact k1 (by omega)
abbrev s_check_number : Stmt := top 16
theorem sc_check_number : FnScope ["number", "count"] ["number", "count"] (defScope s_check_number) := ⟨rfl, rfl, rfl, by decide +kernel, rfl, by decide +kernel, by decide +kernel⟩
theorem ok_cn (F : Fun K "check_number" "check_number" s_check_number f fd) (T : Tx K mg C cN cP cM cS cF tG tM tQ tR)  : FnOk P w K mg base (L2.CX P w) 1 f fd ["number", "count"] (spNum cN) := by
  refine F.okX sc_check_number (fun vs H Q E h => ?_) (fun cdv A outer s H vs Q E hr h => ?_)
  · obtain ⟨i, n, rfl, _⟩ := h
    rfl
  · obtain ⟨i, n, rfl, hi, hn, k1, k2⟩ := h
    refine ⟨_, (pss_one (ps_if (PW.pt (pw_or (pt_cmpR op_lt (pv 0) pe_int (nomark _)) (pw_or1 (pt_cmpR op_ge (pv 0) (pv 1) (nomark _))))) (pss_one (ps_raise rfl (takes_of rfl rfl rfl rfl) (SkE.pmk_own1 PySem.F.excBase_IndexError T.x_NoIndex.ex T.x_NoIndex.g T.x_NoIndex.kp (raises_own T.x_NoIndex.b T.x_NoIndex.t) (by rfl) (pe_joined (.cons (pe_fmt (pv 0)) (.cons pe_str (.cons (pe_fmt (pv 1)) .nil))))))) pss_nil)), ?_⟩
    have bad : ¬ (0 ≤ i ∧ i < n) → tJs [tFmt (tVar 0), tC (.str " is no number below "), tFmt (tVar 1)] Str.empty (start ["number", "count"] [.int i, .int n]) H fun _ H1 => E (.ref cN) none H1 := fun no => by
      have l1 := hi.len
      have l2 := hn.len
      refine ⟨_, rfl, .inr ⟨_, rfl, hi.log, _, rfl, ?_, _, rfl, ?_, _, rfl, .inr ⟨_, rfl, hn.log, _, rfl, ?_, k2 no⟩⟩⟩
      · exact small (by rw [PySem.Str.length_append]; show 0 + _ ≤ 1000; omega)
      · exact small (by rw [PySem.Str.length_append, PySem.Str.length_append]; show 0 + _ + 20 ≤ 1000; omega)
      · exact small (by rw [PySem.Str.length_append, PySem.Str.length_append, PySem.Str.length_append]; show 0 + _ + 20 + _ ≤ 1000; omega)
    refine ⟨_, rfl, _, _, rfl, rfl, _, rfl, ?_⟩
    refine ite2 (fun c => ?_) (fun c => ?_)
    · have c' : i < 0 := of_decide_eq_true c
      exact ifT rfl (bad (by omega))
    · have c' : ¬ i < 0 := fun q => c (decide_eq_true q)
      refine ⟨_, rfl, _, rfl, _, _, rfl, rfl, _, rfl, ?_⟩
      refine ite2 (fun c2 => ?_) (fun c2 => ?_)
      · have c2' : n ≤ i := of_decide_eq_true c2
        exact bad (by omega)
      · have c2' : ¬ n ≤ i := fun q => c2 (decide_eq_true q)
        exact k1 (by omega)
abbrev s_Sizes_init : Stmt := inClass (top 17) 0
theorem sc_Sizes_init : FnScope ["self", "many", "common"] ["self", "many", "common"] (defScope s_Sizes_init) := ⟨rfl, rfl, rfl, by decide +kernel, rfl, by decide +kernel, by decide +kernel⟩
theorem ok_init (F : Fun K "__init__" "Sizes.__init__" s_Sizes_init f fd) (T : Tx K mg C cN cP cM cS cF tG tM tQ tR) (D_check_size : Dn P w K mg base (L2.CX P w) 1 "check_size" ["size"] (spCS cS)) : FnOk P w K mg base (L2.CX P w) 2 f fd ["self", "many", "common"] (spInit C cM cS) := by
  refine F.okX sc_Sizes_init (fun vs H Q E h => ?_) (fun cdv A outer s H vs Q E hr h => ?_)
  · obtain ⟨p, dx, n, c, rfl, _⟩ := h
    rfl
  · obtain ⟨p, dx, n, c, rfl, hp, hn, hc, k1, k2, k3⟩ := h
    refine ⟨_, (pss_cons (ps_if (PW.pt (pw_or (pt_cmpR op_lt (pv 1) pe_int (nomark _)) (pw_or1 (pt_cmpR op_gt (pv 1) (glI (by rfl) T.mg_MOST_THINGS) (nomark _))))) (pss_one (ps_raise rfl (takes_of rfl rfl rfl rfl) (SkE.pmk_own1 PySem.F.excBase_ValueError T.x_BadMany.ex T.x_BadMany.g T.x_BadMany.kp (raises_own T.x_BadMany.b T.x_BadMany.t) (by rfl) (pe_joined (.cons (pe_fmt (pv 1)) (.cons pe_str (.cons (pe_fmt (glI (by rfl) T.mg_MOST_THINGS)) .nil))))))) pss_nil)
      (pss_cons (ps_expr (pe_callD D_check_size (hr.mono (by omega)) (by rfl) (passes_call (takes_of rfl rfl rfl rfl) (fun _ _ _ _ h => h)) (pa_cons (pv 2) pa_nil)))
      (pss_cons (ps_fld (pv 0) (pv 1) rfl)
      (pss_cons (ps_fld (pv 0) (pv 2) rfl)
      (pss_one (ps_fld (pv 0) pe_dnewK rfl)))))), ?_⟩
    have bad : ¬ (1 ≤ n ∧ n ≤ 1000000) → tJs [tFmt (tVar 1), tC (.str " is no count from 1 to "), tFmt (tC (.int 1000000))] Str.empty (start ["self", "many", "common"] [.ref p, .int n, .int c]) H fun _ H1 => E (.ref cM) none H1 := fun no => by
      have l1 := hn.len
      refine ⟨_, rfl, .inr ⟨_, rfl, hn.log, _, rfl, ?_, _, rfl, ?_, .inr ⟨_, rfl, by decide, _, rfl, ?_, k2 no⟩⟩⟩
      · exact small (by rw [PySem.Str.length_append]; show 0 + _ ≤ 1000; omega)
      · exact small (by rw [PySem.Str.length_append, PySem.Str.length_append]; show 0 + _ + 23 ≤ 1000; omega)
      · exact small (by rw [PySem.Str.length_append, PySem.Str.length_append, PySem.Str.length_append]; show 0 + _ + 23 + 7 ≤ 1000; omega)
    refine ⟨_, rfl, _, _, rfl, rfl, _, rfl, ?_⟩
    refine ite2 (fun c1 => ?_) (fun c1 => ?_)
    · have c' : n < 1 := of_decide_eq_true c1
      exact ifT rfl (bad (by omega))
    · have c' : ¬ n < 1 := fun q => c1 (decide_eq_true q)
      refine ⟨_, rfl, _, _, rfl, rfl, _, rfl, ?_⟩
      refine ite2 (fun c2 => ?_) (fun c2 => ?_)
      · have c2' : (1000000 : Int) < n := of_decide_eq_true c2
        exact bad (by omega)
      · have c2' : ¬ (1000000 : Int) < n := fun q => c2 (decide_eq_true q)
        have yes : 1 ≤ n ∧ n ≤ 1000000 := by omega
        refine ⟨_, rfl, c, rfl, hc, fun yc => ?_, fun no => k3 yes no⟩
        refine ⟨_, rfl, _, rfl, p, C, dx, [], rfl, hp, T.cl, T.n_many, (by show 0 < 1000; decide), ?_⟩
        refine ⟨_, rfl, _, rfl, p, C, dx, _, rfl, upd_same, T.cl, T.n_common, (by show 1 < 1000; decide), fun d hd => ?_⟩
        rw [upd_upd] at hd
        have npd : p ≠ d := by
          intro e
          rw [e, upd_same] at hd
          cases hd
        have hd0 : H d = none := by rw [upd_ne npd.symm] at hd; exact hd
        refine ⟨_, rfl, p, C, dx, _, rfl, (by rw [upd_ne npd, upd_same]), T.cl, T.n_odd, (by show 2 < 1000; decide), ?_⟩
        refine k1 ⟨yes, yc⟩ d _ hd0 ⟨dx, [], upd_same, by rw [upd_ne npd.symm, upd_same], .nil, ⟨yes.1, by show n ≤ 1000000000; omega, yc.1, yc.2, List.nodup_nil, Nat.zero_le _, fun e he => nomatch he⟩⟩ fun b o e hb => ?_
        rw [upd_ne hb, upd_ne (ne_of_none e hd0), upd_ne hb, upd_ne hb]
        exact e
abbrev s_Sizes_state : Stmt := inClass (top 17) 3
theorem sc_Sizes_state : FnScope ["self", "number"] ["self", "number"] (defScope s_Sizes_state) := ⟨rfl, rfl, rfl, by decide +kernel, rfl, by decide +kernel, by decide +kernel⟩
theorem ok_state (F : Fun K "state" "Sizes.state" s_Sizes_state f fd) (T : Tx K mg C cN cP cM cS cF tG tM tQ tR) (D_check_number : Dn P w K mg base (L2.CX P w) 1 "check_number" ["number", "count"] (spNum cN)) : FnOk P w K mg base (L2.CX P w) 2 f fd ["self", "number"] (spState C cN) := by
  refine F.okX sc_Sizes_state (fun vs H Q E h => ?_) (fun cdv A outer s H vs Q E hr h => ?_)
  · obtain ⟨p, d, z, i, rfl, _⟩ := h
    rfl
  · obtain ⟨p, d, z, i, rfl, S, hi, k1, k2⟩ := h
    have hu := hu_of hr
    obtain ⟨dx, kvs, h1, h2, h3, W⟩ := S
    have W' := W
    obtain ⟨m0, m1, c0, c1, nd, le, ok⟩ := W'
    refine ⟨_, (pss_cons (ps_expr (pe_callD D_check_number (hr.mono (by omega)) (by rfl) (passes_call (takes_of rfl rfl rfl rfl) (fun _ _ _ _ h => h)) (pa_cons (pv 1) (pa_cons (pe_fld (pv 0) rfl) pa_nil))))
      (pss_one (ps_ret (pe_dget2 hu (pe_fld (pv 0) rfl) (pv 1) (pe_tup (pa_cons (pe_fld (pv 0) rfl) (pa_cons pe_bl pa_nil))) ⟨rfl, rfl, rfl, rfl⟩)))), ?_⟩
    refine ⟨_, rfl, _, rfl, p, C, dx, _, _, rfl, h1, T.cl, T.n_many, fz_many _ _ _, i, z.many, rfl, hi, Sm.of (by omega) (by omega), fun yes => ?_, k2⟩
    refine ⟨_, rfl, p, C, dx, _, _, rfl, h1, T.cl, T.n_odd, fz_odd _ _ _, d, rfl, .inl ⟨kvs, h2⟩, _, rfl, _, rfl, p, C, dx, _, _, rfl, h1, T.cl, T.n_common, fz_common _ _ _, (by show 2 ≤ sizeLine; decide), fun t ht => ?_⟩
    have s1 := same_new ht (.tup [.int z.common, .bl false])
    refine ⟨_, .inl ⟨kvs, Sum.inl i, Same.rd s1 h2, rfl, rfl⟩, ?_⟩
    have key : stM z i = (look z.odd i).getD (z.common, false) := rfl
    rcases h3.look i with ⟨e1, e2⟩ | ⟨u, x, e1, e2, e3⟩
    · rw [e1]
      rw [e2] at key
      exact k1 yes t _ s1 (by rw [key]; exact upd_same)
    · rw [e1]
      rw [e2] at key
      exact k1 yes u _ s1 (by rw [key]; exact s1 _ _ e3)
abbrev s_Sizes_size : Stmt := inClass (top 17) 4
theorem sc_Sizes_size : FnScope ["self", "number", "own", "hidden"] ["self", "number"] (defScope s_Sizes_size) := ⟨rfl, rfl, rfl, by decide +kernel, rfl, by decide +kernel, by decide +kernel⟩
theorem ok_size (F : Fun K "size" "Sizes.size" s_Sizes_size f fd) (T : Tx K mg C cN cP cM cS cF tG tM tQ tR) (M_state : Mn P w K mg base (L2.CX P w) 2 C "state" ["self", "number"] (spState C cN)) : FnOk P w K mg base (L2.CX P w) 3 f fd ["self", "number"] (spSize C cN) := by
  refine F.okX sc_Sizes_size (fun vs H Q E h => ?_) (fun cdv A outer s H vs Q E hr h => ?_)
  · obtain ⟨p, d, z, i, rfl, _⟩ := h
    rfl
  · obtain ⟨p, d, z, i, rfl, S, hi, k1, k2⟩ := h
    obtain ⟨dx, kvs, h1, h2, h3, W⟩ := id S
    refine ⟨_, (pss_cons (ps_asg (pe_methD T.cl M_state (hr.mono (by omega)) (passes_call (takes_of rfl rfl rfl rfl) (fun _ _ _ _ h => h)) (pv 0) (pa_cons (pv 1) pa_nil)) (pg_tup (by rfl) (pgs_cons (pg_name (i := 2) sc_Sizes_size.nd rfl (.inl rfl)) (pgs_cons (pg_name (i := 3) sc_Sizes_size.nd rfl (.inl rfl)) pgs_nil))))
      (pss_one (ps_ret (pe_ifExp (pt_val (pv 3)) pe_int (pv 2))))), ?_⟩
    refine ⟨_, rfl, p, dx, _, rfl, h1, fz_no _ _ _, _, rfl, p, d, z, i, rfl, S, hi, fun yes t H1 s1 e1 => ?_, k2⟩
    refine ⟨_, _, rfl, SqT.of e1, rfl, _, _, rfl, _, _, rfl, rfl, ?_⟩
    refine ⟨_, rfl, _, rfl, ?_⟩
    have kk : Q (.int (szM z i)) H1 := k1 yes H1 s1
    unfold szM at kk
    refine ite2 (fun c => ?_) (fun c => ?_)
    · rw [if_pos c] at kk
      exact kk
    · rw [if_neg c] at kk
      exact ⟨_, rfl, kk⟩
abbrev s_Sizes_own : Stmt := inClass (top 17) 5
theorem sc_Sizes_own : FnScope ["self", "number"] ["self", "number"] (defScope s_Sizes_own) := ⟨rfl, rfl, rfl, by decide +kernel, rfl, by decide +kernel, by decide +kernel⟩
theorem ok_own (F : Fun K "own" "Sizes.own" s_Sizes_own f fd) (T : Tx K mg C cN cP cM cS cF tG tM tQ tR) (M_state : Mn P w K mg base (L2.CX P w) 2 C "state" ["self", "number"] (spState C cN)) : FnOk P w K mg base (L2.CX P w) 3 f fd ["self", "number"] (spOwn C cN) := by
  refine F.okX sc_Sizes_own (fun vs H Q E h => ?_) (fun cdv A outer s H vs Q E hr h => ?_)
  · obtain ⟨p, d, z, i, rfl, _⟩ := h
    rfl
  · obtain ⟨p, d, z, i, rfl, S, hi, k1, k2⟩ := h
    obtain ⟨dx, kvs, h1, h2, h3, W⟩ := id S
    refine ⟨_, (pss_one (ps_ret (pe_ix ix_tup (pe_methD T.cl M_state (hr.mono (by omega)) (passes_call (takes_of rfl rfl rfl rfl) (fun _ _ _ _ h => h)) (pv 0) (pa_cons (pv 1) pa_nil)) pe_int (fun _ _ => rfl)))), ?_⟩
    refine ⟨_, rfl, p, dx, _, rfl, h1, fz_no _ _ _, _, rfl, p, d, z, i, rfl, S, hi, fun yes t H1 s1 e1 => ?_, k2⟩
    exact ⟨_, _, _, _, rfl, rfl, SqT.of e1, atI_nat (j := 0) rfl, k1 yes H1 s1⟩
abbrev s_Sizes_hidden : Stmt := inClass (top 17) 6
theorem sc_Sizes_hidden : FnScope ["self", "number"] ["self", "number"] (defScope s_Sizes_hidden) := ⟨rfl, rfl, rfl, by decide +kernel, rfl, by decide +kernel, by decide +kernel⟩
theorem ok_hidden (F : Fun K "hidden" "Sizes.hidden" s_Sizes_hidden f fd) (T : Tx K mg C cN cP cM cS cF tG tM tQ tR) (M_state : Mn P w K mg base (L2.CX P w) 2 C "state" ["self", "number"] (spState C cN)) : FnOk P w K mg base (L2.CX P w) 3 f fd ["self", "number"] (spHid C cN) := by
  refine F.okX sc_Sizes_hidden (fun vs H Q E h => ?_) (fun cdv A outer s H vs Q E hr h => ?_)
  · obtain ⟨p, d, z, i, rfl, _⟩ := h
    rfl
  · obtain ⟨p, d, z, i, rfl, S, hi, k1, k2⟩ := h
    obtain ⟨dx, kvs, h1, h2, h3, W⟩ := id S
    refine ⟨_, (pss_one (ps_ret (pe_ix ix_tup (pe_methD T.cl M_state (hr.mono (by omega)) (passes_call (takes_of rfl rfl rfl rfl) (fun _ _ _ _ h => h)) (pv 0) (pa_cons (pv 1) pa_nil)) pe_int (fun _ _ => rfl)))), ?_⟩
    refine ⟨_, rfl, p, dx, _, rfl, h1, fz_no _ _ _, _, rfl, p, d, z, i, rfl, S, hi, fun yes t H1 s1 e1 => ?_, k2⟩
    exact ⟨_, _, _, _, rfl, rfl, SqT.of e1, atI_nat (j := 1) rfl, k1 yes H1 s1⟩
abbrev s_Sizes_ahead : Stmt := inClass (top 17) 7
theorem sc_Sizes_ahead : FnScope ["self", "number", "more", "each"] ["self", "number"] (defScope s_Sizes_ahead) := ⟨rfl, rfl, rfl, by decide +kernel, rfl, by decide +kernel, by decide +kernel⟩
theorem ok_ahead (F : Fun K "ahead" "Sizes.ahead" s_Sizes_ahead f fd) (T : Tx K mg C cN cP cM cS cF tG tM tQ tR) (D_check_number : Dn P w K mg base (L2.CX P w) 1 "check_number" ["number", "count"] (spNum cN)) (M_size : Mn P w K mg base (L2.CX P w) 3 C "size" ["self", "number"] (spSize C cN)) : FnOk P w K mg base (L2.CX P w) 4 f fd ["self", "number"] (spAhead C cN) := by
  refine F.okX sc_Sizes_ahead (fun vs H Q E h => ?_) (fun cdv A outer s H vs Q E hr h => ?_)
  · obtain ⟨p, d, z, i, rfl, _⟩ := h
    rfl
  · obtain ⟨p, d, z, i, rfl, S, hi, k1, k2⟩ := h
    obtain ⟨dx, kvs, h1, h2, h3, W⟩ := id S
    have W' := W
    obtain ⟨m0, m1, c0, c1, nd, le, ok⟩ := W'
    have npd : p ≠ d := ne_of h1 h2 (by intro e; cases e)
    refine ⟨_, (pss_cons (ps_expr (pe_callD D_check_number (hr.mono (by omega)) (by rfl) (passes_call (takes_of rfl rfl rfl rfl) (fun _ _ _ _ h => h)) (pa_cons (pv 1) (pa_cons (pe_op op_add (pe_fld (pv 0) rfl) pe_int) pa_nil))))
      (pss_cons (ps_set (i := 2) sc_Sizes_ahead.nd rfl (.inl rfl) (pe_callB (cr_sum rfl) (by rfl) T.no_sum (by decide +kernel) (pa_cons (pe_lock (pe_lc (own := [("each", 3)]) (g := gName 3) rfl sc_Sizes_ahead.nd (pi_keys (pe_fld (pv 0) rfl)) (blkOk_by (N := ["self", "number", "more", "each"]) (sc := defScope s_Sizes_ahead) (by decide +kernel)) (fun _ _ _ _ _ => (pg_name (i := 3) sc_Sizes_ahead.nd rfl (Or.inl rfl))) (fun _ _ _ _ _ => (pts_one (pt_cmpR op_lt (pv 3) (pv 1) (nomark _)))) (fun _ _ _ _ _ => (pe_op op_sub (pe_methD T.cl M_size (hr.mono (by omega)) passL (pv 0) (pa_cons (pv 3) pa_nil)) (fldK (K := K) rfl (pv 0) rfl))))) pa_nil)))
      (pss_one (ps_ret (pe_op op_add (pe_op op_mul (pv 1) (pe_fld (pv 0) rfl)) (pv 2)))))), ?_⟩
    refine ⟨_, rfl, _, rfl, p, C, dx, _, _, rfl, h1, T.cl, T.n_many, fz_many _ _ _, _, _, rfl, rfl, i, z.many + 1, rfl, hi, Sm.of (by omega) (by omega), fun yes => ?_, fun no => k2 (fun y => no (by omega))⟩
    refine ⟨d, _, h2, trivial, fun od => ?_⟩
    obtain ⟨HL, eL⟩ : ∃ HL, HL = upd H d (.frz od (.dK kvs)) := ⟨_, rfl⟩
    have hLd : HL d = some (.frz od (.dK kvs)) := by rw [eL]; exact upd_same
    have hLp : HL p = some (.ins C dx (fldZ z.many z.common d)) := by rw [eL, upd_ne npd]; exact h1
    have tsL : TupSame H HL := by rw [eL]; exact TupSame.upd h2 (fun xs e => by cases e) _
    have SL : SzR C HL p d z := ⟨dx, kvs, hLp, .inr ⟨od, hLd⟩, h3.mono tsL, W⟩
    rw [← eL]
    refine ⟨_, rfl, p, C, dx, _, _, rfl, hLp, T.cl, T.n_odd, fz_odd _ _ _, d, od, rfl, .inl ⟨kvs, hLd, fun D hD => ?_⟩⟩
    refine lc_it walk_keys (fun j H2 => Same HL H2 ∧ H2 D = some (.lst (((((z.odd.map (·.1)).take j).filter fun k => decide (k < i)).map fun k => szM z k - z.common).map V.int))) ⟨same_new hD _, upd_same⟩ (fun j H2 _ q => q.1 _ _ hLd) ?_ ?_
    · rintro j x H2 H2' hj ⟨s2, e2⟩ ⟨rfl, kk, vv, ekv, rfl⟩
      obtain ⟨e, ee, eq1⟩ := h3.at_ ekv
      subst eq1
      have hm := ok e (List.mem_of_getElem? ee)
      have ek : (z.odd.map (·.1))[j]? = some e.1 := by rw [List.getElem?_map, ee]; rfl
      refine ⟨rfl, ?_⟩
      refine ⟨_, rfl, _, rfl, _, _, rfl, rfl, _, rfl, ?_⟩
      refine ite2 (fun q => ?_) (fun q => ?_)
      · refine ⟨_, rfl, p, dx, _, rfl, s2 _ _ hLp, fz_no _ _ _, _, rfl, p, d, z, e.1, rfl, SL.same s2, Sm.of (by omega) (by omega), fun _ H3 s3 => ?_, fun no => absurd ⟨hm.1, hm.2.1⟩ no⟩
        refine ⟨_, rfl, p, C, dx, _, _, rfl, s3 _ _ (s2 _ _ hLp), T.cl, T.n_common, fz_common _ _ _, _, _, rfl, rfl, _, s3 _ _ e2, ?_, ?_, ?_⟩
        · refine Nat.lt_of_le_of_lt ?_ (show 60 < sizeLine by decide)
          rw [List.length_map, List.length_map]
          refine Nat.le_trans (List.length_filter_le _ _) (Nat.le_trans (List.length_take_le' _ _) ?_)
          rw [List.length_map]
          exact le
        · intro b' o z'
          rw [upd_ne (ne_of_none z' hD)]
          exact s3 _ _ (s2 _ _ z')
        · rw [upd_same, take_filter1 _ _ ek, if_pos q, List.map_append, List.map_append]
          rfl
      · refine ⟨s2, ?_⟩
        rw [take_filter1 _ _ ek, if_neg q, List.append_nil]
        exact e2
    rintro H2 ⟨s2, e2⟩
    have eLen : kvs.length = (z.odd.map (·.1)).length := by rw [List.length_map]; exact h3.len
    rw [eLen, List.take_length] at e2
    have nDd : D ≠ d := ne_of e2 (s2 _ _ hLd) (by intro e; cases e)
    refine ⟨s2 _ _ hLd, _, _, rfl, SqL.of (by rw [upd_ne nDd]; exact e2), ?_⟩
    have sF : Same H (upd H2 d (.dK kvs)) := by
      intro b o q
      by_cases hb : b = d
      · subst hb
        rw [h2] at q
        cases q
        exact upd_same
      · rw [upd_ne hb]
        refine s2 _ _ ?_
        rw [eL, upd_ne hb]
        exact q
    refine ⟨_, rfl, _, rfl, p, C, dx, _, _, rfl, sF _ _ h1, T.cl, T.n_common, fz_common _ _ _, _, _, rfl, rfl, .inr ⟨by omega, by omega⟩, _, rfl, _, _, rfl, rfl, ?_⟩
    exact k1 (by omega) _ sF
abbrev s_Sizes_total : Stmt := inClass (top 17) 8
theorem sc_Sizes_total : FnScope ["self"] ["self"] (defScope s_Sizes_total) := ⟨rfl, rfl, rfl, by decide +kernel, rfl, by decide +kernel, by decide +kernel⟩
theorem ok_total (F : Fun K "total" "Sizes.total" s_Sizes_total f fd) (T : Tx K mg C cN cP cM cS cF tG tM tQ tR) (M_ahead : Mn P w K mg base (L2.CX P w) 4 C "ahead" ["self", "number"] (spAhead C cN)) : FnOk P w K mg base CX0 5 f fd ["self"] (spTotal C) := by
  refine F.ok sc_Sizes_total (fun vs H Q E h => ?_) (fun cdv A outer s H vs Q E hr h => ?_)
  · obtain ⟨p, d, z, rfl, _⟩ := h
    rfl
  · obtain ⟨p, d, z, rfl, S, k1⟩ := h
    obtain ⟨dx, kvs, h1, h2, h3, W⟩ := id S
    obtain ⟨m0, m1, c0, c1, nd, le, ok⟩ := W
    refine ⟨_, (pss_one (ps_ret (pe_methD T.cl M_ahead (hr.mono (by omega)) passL (pv 0) (pa_cons (pe_fld (pv 0) rfl) pa_nil)))), ?_⟩
    exact ⟨_, rfl, p, dx, _, rfl, h1, fz_no _ _ _, _, rfl, p, C, dx, _, _, rfl, h1, T.cl, T.n_many, fz_many _ _ _, p, d, z, _, rfl, S, Sm.of (by omega) (by omega), fun _ H1 s1 => k1 H1 s1, fun no => absurd ⟨by omega, Int.le_refl _⟩ no⟩
abbrev s_Sizes_exceptions : Stmt := inClass (top 17) 11
theorem sc_Sizes_exceptions : FnScope ["self", "number"] ["self"] (defScope s_Sizes_exceptions) := ⟨rfl, rfl, rfl, by decide +kernel, rfl, by decide +kernel, by decide +kernel⟩
theorem ok_exceptions (F : Fun K "exceptions" "Sizes.exceptions" s_Sizes_exceptions f fd) (T : Tx K mg C cN cP cM cS cF tG tM tQ tR) (M_own : Mn P w K mg base (L2.CX P w) 3 C "own" ["self", "number"] (spOwn C cN)) (M_hidden : Mn P w K mg base (L2.CX P w) 3 C "hidden" ["self", "number"] (spHid C cN)) : FnOk P w K mg base CX0 4 f fd ["self"] (spExc K C) := by
  refine F.ok sc_Sizes_exceptions (fun vs H Q E h => ?_) (fun cdv A outer s H vs Q E hr h => ?_)
  · obtain ⟨p, d, z, rfl, _⟩ := h
    rfl
  · obtain ⟨p, d, z, rfl, S, k1⟩ := h
    obtain ⟨dx, kvs, h1, h2, h3, W⟩ := id S
    obtain ⟨m0, m1, c0, c1, nd, le, ok⟩ := W
    refine ⟨_, (pss_one (ps_ret (pe_lc (own := [("number", 1)]) (g := gName 1) rfl sc_Sizes_exceptions.nd (pi_list (pe_callB (call_sortedDI rfl) (by rfl) T.no_sorted (by decide +kernel) (pa_cons (pe_fld (pv 0) rfl) pa_nil))) (blkOk_by (N := ["self", "number"]) (sc := defScope s_Sizes_exceptions) (by decide +kernel)) (fun _ _ _ _ _ => (pg_name (i := 1) sc_Sizes_exceptions.nd rfl (Or.inl rfl))) (fun _ _ _ _ _ => pts_nil) (fun _ _ _ _ _ => (pe_tup (pa_cons (pv 1) (pa_cons (pe_methD T.cl M_own (hr.mono (by omega)) passL (pv 0) (pa_cons (pv 1) pa_nil)) (pa_cons (pe_methD T.cl M_hidden (hr.mono (by omega)) passL (pv 0) (pa_cons (pv 1) pa_nil)) pa_nil)))))))), ?_⟩
    refine ⟨_, rfl, p, C, dx, _, _, rfl, h1, T.cl, T.n_odd, fz_odd _ _ _, d, kvs, z.odd.map (·.1), rfl, .inl h2, h3.keys, (by rw [List.length_map]; omega), fun ys l perm pw hl => ?_⟩
    have s1 := same_new hl (.lst (ys.map V.int))
    refine ⟨l, rfl, ⟨_, SqL.of upd_same⟩, fun D hD => ?_⟩
    generalize hH1 : upd H l (.lst (ys.map V.int)) = H1 at s1 hD ⊢
    have hl1 : H1 l = some (.lst (ys.map V.int)) := by rw [← hH1]; exact upd_same
    have yl : ys.length ≤ 60 := by rw [perm.length_eq, List.length_map]; exact le
    refine lc_list (K := K) (a := l) (xs := ys.map V.int) (fun j H2 => Same H1 H2 ∧ ∃ acc, H2 D = some (.lst acc) ∧ DpT H2 acc ((ys.take j).map (exc1 z))) ⟨same_new hD _, [], upd_same, .nil⟩ (fun j H2 _ q => SqL.of (q.1 _ _ hl1)) ?_ ?_
    · rintro j y H2 hy ⟨s2, acc, e2, da⟩
      rw [List.getElem?_map] at hy
      cases hj : ys[j]? with
      | none => rw [hj] at hy; cases hy
      | some kk =>
        rw [hj] at hy
        have hy' : V.int kk = y := Option.some.inj hy
        subst hy'
        have hin : kk ∈ z.odd.map (·.1) := perm.mem_iff.mp (List.mem_of_getElem? hj)
        obtain ⟨e, he, ek⟩ := List.mem_map.mp hin
        have hm := ok e he
        rw [ek] at hm
        refine ⟨rfl, ?_⟩
        unfold tYes
        refine ifT rfl ?_
        have S2 := (S.r.same s1).same s2
        refine ⟨_, rfl, _, rfl, p, dx, _, rfl, s2 _ _ (s1 _ _ h1), fz_no _ _ _, _, rfl, p, d, z, kk, rfl, S2, Sm.of (by omega) (by omega), fun _ H3 s3 => ?_, fun no => absurd ⟨hm.1, hm.2.1⟩ no⟩
        refine ⟨_, rfl, p, dx, _, rfl, s3 _ _ (s2 _ _ (s1 _ _ h1)), fz_no _ _ _, _, rfl, p, d, z, kk, rfl, S2.same s3, Sm.of (by omega) (by omega), fun _ H4 s4 => ?_, fun no => absurd ⟨hm.1, hm.2.1⟩ no⟩
        refine ⟨(by show 3 ≤ sizeLine; decide), fun t ht => ?_⟩
        have s5 := same_new ht (.tup [.int kk, .int (stM z kk).1, .bl (stM z kk).2])
        have e5 := s5 _ _ (s4 _ _ (s3 _ _ e2))
        have al : acc.length = (ys.take j).length := by rw [da.len, List.length_map]
        refine ⟨acc, e5, ?_, ?_, _, upd_same, ?_⟩
        · refine Nat.lt_of_le_of_lt ?_ (show 60 < sizeLine by decide)
          rw [al]
          exact Nat.le_trans (List.length_take_le' _ _) yl
        · intro b' o z'
          rw [upd_ne (ne_of_none z' hD)]
          exact s5 _ _ (s4 _ _ (s3 _ _ (s2 _ _ z')))
        · rw [take_map1 _ _ hj]
          have ts := TupSame.upd e5 (fun xs e => by cases e) (.lst (acc ++ [.ref t]))
          exact (da.mono (((TupSame.of s3).trans ((TupSame.of s4).trans (TupSame.of s5))).trans ts)).append (.cons ⟨t, rfl, ts _ _ upd_same⟩ .nil)
    rintro H2 ⟨s2, acc, e2, da⟩
    rw [List.length_map, List.take_length] at da
    exact k1 ys D H2 perm pw (s1.trans s2) (.lst (SqL.of e2) da.dp)
abbrev s_Sizes_repr : Stmt := inClass (top 17) 2
theorem sc_Sizes_repr : FnScope ["self"] ["self"] (defScope s_Sizes_repr) := ⟨rfl, rfl, rfl, by decide +kernel, rfl, by decide +kernel, by decide +kernel⟩
theorem ok_repr (F : Fun K "__repr__" "Sizes.__repr__" s_Sizes_repr f fd) (T : Tx K mg C cN cP cM cS cF tG tM tQ tR)  : FnOk P w K mg base CX0 1 f fd ["self"] (spRepr C) := by
  refine F.ok sc_Sizes_repr (fun vs H Q E h => ?_) (fun cdv A outer s H vs Q E hr h => ?_)
  · obtain ⟨p, d, z, rfl, _⟩ := h
    rfl
  · obtain ⟨p, d, z, rfl, S, k1⟩ := h
    obtain ⟨dx, kvs, h1, h2, h3, W⟩ := id S
    obtain ⟨m0, m1, c0, c1, nd, le, ok⟩ := W
    refine ⟨_, (pss_one (ps_ret (pe_joined (.cons pe_str (.cons (pe_fmt (pe_fld (pv 0) rfl)) (.cons pe_str (.cons (pe_fmt (pe_fld (pv 0) rfl)) .nil))))))), ?_⟩
    have sm : Sm z.many := Sm.of (by omega) (by omega)
    have sc : Sm z.common := Sm.of (by omega) (by omega)
    have l1 := sm.len
    have l2 := sc.len
    refine ⟨_, rfl, ?_, _, rfl, p, C, dx, _, _, rfl, h1, T.cl, T.n_many, fz_many _ _ _, .inr ⟨_, rfl, sm.log, _, rfl, ?_, _, rfl, ?_, _, rfl, p, C, dx, _, _, rfl, h1, T.cl, T.n_common, fz_common _ _ _, .inr ⟨_, rfl, sc.log, _, rfl, ?_, ?_⟩⟩⟩
    · exact small (by rw [PySem.Str.length_append]; show 0 + 6 ≤ 1000; omega)
    · exact small (by rw [PySem.Str.length_append, PySem.Str.length_append]; show 0 + 6 + _ ≤ 1000; omega)
    · exact small (by rw [PySem.Str.length_append, PySem.Str.length_append, PySem.Str.length_append]; show 0 + 6 + _ + 1 ≤ 1000; omega)
    · exact small (by rw [PySem.Str.length_append, PySem.Str.length_append, PySem.Str.length_append, PySem.Str.length_append]; show 0 + 6 + _ + 1 + _ ≤ 1000; omega)
    · exact k1
abbrev s_Sizes_at : Stmt := inClass (top 17) 10
theorem sc_Sizes_at : FnScope ["self", "point", "first", "left", "number", "plain", "counted"] ["self", "point"] (defScope s_Sizes_at) := ⟨rfl, rfl, rfl, by decide +kernel, rfl, by decide +kernel, by decide +kernel⟩
theorem ok_at (F : Fun K "at" "Sizes.at" s_Sizes_at f fd) (T : Tx K mg C cN cP cM cS cF tG tM tQ tR) (M_size : Mn P w K mg base (L2.CX P w) 3 C "size" ["self", "number"] (spSize C cN)) (M_total : Mn P w K mg base CX0 5 C "total" ["self"] (spTotal C)) : FnOk P w K mg base (L2.CX P w) 6 f fd ["self", "point"] (spAt C cP) := by
  refine F.okX sc_Sizes_at (fun vs H Q E h => ?_) (fun cdv A outer s H vs Q E hr h => ?_)
  · obtain ⟨p, d, z, pt, rfl, _⟩ := h
    rfl
  · obtain ⟨p, d, z, pt, rfl, S, hp, k1, k2⟩ := h
    obtain ⟨dx, kvs, h1, h2, h3, W⟩ := id S
    have W' := W
    obtain ⟨m0, m1, c0, c1, nd, le, ok⟩ := W'
    have ta := ah_range W (show 0 ≤ z.many by omega)
    have st : Sm (ahM z z.many) := Sm.of (by omega) (by omega)
    refine ⟨_, (C8.pss_cut (ps_if (PW.pt (pw_or (pt_cmpR op_lt (pv 1) pe_int (nomark _)) (pw_or1 (pt_cmpR op_ge (pv 1) (pe_methD0 T.cl M_total (hr.mono (by omega)) pass0 (pv 0)) (nomark _))))) (pss_one (ps_raise rfl (takes_of rfl rfl rfl rfl) (SkE.pmk_own1 PySem.F.excBase_IndexError T.x_NoPoint.ex T.x_NoPoint.g T.x_NoPoint.kp (raises_own T.x_NoPoint.b T.x_NoPoint.t) (by rfl) (pe_joined (.cons (pe_fmt (pv 1)) (.cons pe_str (.cons (pe_fmt (pe_methD0 T.cl M_total (hr.mono (by omega)) pass0 (pv 0))) .nil))))))) pss_nil)
      (pss_cons (ps_set (i := 2) sc_Sizes_at.nd rfl (.inl rfl) pe_int)
      (pss_cons (ps_set (i := 3) sc_Sizes_at.nd rfl (.inl rfl) (pv 1))
      (C8.pss_cut (ps_for (passes_of rfl) rfl (pi_list (pe_callB (call_sortedDI rfl) (by rfl) T.no_sorted (by decide +kernel) (pa_cons (pe_fld (pv 0) rfl) pa_nil))) (pg_name (i := 4) sc_Sizes_at.nd rfl (.inl rfl))
        (pss_cons (ps_set (i := 5) sc_Sizes_at.nd rfl (.inl rfl) (pe_op op_mul (pe_op op_sub (pv 4) (pv 2)) (pe_fld (pv 0) rfl)))
        (pss_cons (ps_if (pt_cmpR op_lt (pv 3) (pv 5) (nomark _)) (pss_one ps_break) pss_nil)
        (pss_cons (ps_aug (i := 3) sc_Sizes_at.nd rfl (.inl rfl) (pv 5) ip_sub)
        (pss_cons (ps_set (i := 6) sc_Sizes_at.nd rfl (.inl rfl) (pe_methD T.cl M_size (hr.mono (by omega)) (passes_call (takes_of rfl rfl rfl rfl) (fun _ _ _ _ h => h)) (pv 0) (pa_cons (pv 4) pa_nil)))
        (pss_cons (ps_if (pt_cmpR op_lt (pv 3) (pv 6) (nomark _)) (pss_one (ps_ret (pe_tup (pa_cons (pv 4) (pa_cons (pv 3) pa_nil))))) pss_nil)
        (pss_cons (ps_aug (i := 3) sc_Sizes_at.nd rfl (.inl rfl) (pv 6) ip_sub)
        (pss_one (ps_set (i := 2) sc_Sizes_at.nd rfl (.inl rfl) (pe_op op_add (pv 4) pe_int))))))))))
      (pss_one (ps_ret (pe_tup (pa_cons (pe_op op_add (pv 2) (pe_op op_fdiv (pv 3) (pe_fld (pv 0) rfl))) (pa_cons (pe_op op_mod (pv 3) (pe_fld (pv 0) rfl)) pa_nil))))))))), ?_⟩
    have bad : ¬ (0 ≤ pt ∧ pt < ahM z z.many) → ∀ H1, Same H H1 → tJs [tFmt (tVar 1), tC (.str " is no point below "), tFmt (tMeth C "total" (spTotal C) [] E0 (tVar 0) tNil)] Str.empty (start ["self", "point", "first", "left", "number", "plain", "counted"] [.ref p, .int pt]) H1 fun _ H2 => E (.ref cP) none H2 := fun no H1 s1 => by
      have l1 := hp.len
      have l2 := st.len
      refine ⟨_, rfl, .inr ⟨_, rfl, hp.log, _, rfl, ?_, _, rfl, ?_, _, rfl, p, dx, _, rfl, s1 _ _ h1, fz_no _ _ _, p, d, z, rfl, S.same s1, fun H2 s2 => .inr ⟨_, rfl, st.log, _, rfl, ?_, k2 no _ (s1.trans s2)⟩⟩⟩
      · exact small (by rw [PySem.Str.length_append]; show 0 + _ ≤ 1000; omega)
      · exact small (by rw [PySem.Str.length_append, PySem.Str.length_append]; show 0 + _ + 19 ≤ 1000; omega)
      · exact small (by rw [PySem.Str.length_append, PySem.Str.length_append, PySem.Str.length_append]; show 0 + _ + 19 + _ ≤ 1000; omega)
    refine ⟨fun σ H' => σ = start ["self", "point", "first", "left", "number", "plain", "counted"] [.ref p, .int pt] ∧ Same H H' ∧ 0 ≤ pt ∧ pt < ahM z z.many, ?_, ?_⟩
    · refine ⟨_, rfl, _, _, rfl, rfl, _, rfl, ?_⟩
      refine ite2 (fun c => ?_) (fun c => ?_)
      · have c' : pt < 0 := of_decide_eq_true c
        exact ifT rfl (bad (by omega) H (Same.refl H))
      · have c' : ¬ pt < 0 := fun q => c (decide_eq_true q)
        refine ⟨_, rfl, _, rfl, p, dx, _, rfl, h1, fz_no _ _ _, p, d, z, rfl, S, fun H1 s1 => ⟨_, _, rfl, rfl, _, rfl, ?_⟩⟩
        refine ite2 (fun c2 => ?_) (fun c2 => ?_)
        · have c2' : ahM z z.many ≤ pt := of_decide_eq_true c2
          exact bad (by omega) H1 s1
        · have c2' : ¬ ahM z z.many ≤ pt := fun q => c2 (decide_eq_true q)
          exact ⟨rfl, s1, by omega, by omega⟩
    rintro σ H1 ⟨rfl, s1, p0, p1⟩
    refine ⟨_, rfl, ?_⟩
    have S1 := S.same s1
    refine ⟨fun σ H' => Same H H' ∧ ∃ first left x4 x5 x6, σ = [some (.ref p), some (.int pt), some (.int first), some (.int left), x4, x5, x6] ∧ 0 ≤ first ∧ 0 ≤ left ∧ left = pt - ahM z first ∧ first + left / z.common < z.many ∧ (∀ k ∈ z.odd.map (·.1), k < first ∨ first + left / z.common < k), ?_, ?_⟩
    · refine ⟨_, rfl, p, C, dx, _, _, rfl, s1 _ _ h1, T.cl, T.n_odd, fz_odd _ _ _, d, kvs, z.odd.map (·.1), rfl, .inl (s1 _ _ h2), h3.keys, (by rw [List.length_map]; omega), fun ys l perm pw hl => ?_⟩
      have s2 := same_new hl (.lst (ys.map V.int))
      have e2 : upd H1 l (.lst (ys.map V.int)) l = some (.lst (ys.map V.int)) := upd_same
      generalize upd H1 l (.lst (ys.map V.int)) = H2 at s2 e2 ⊢
      have slt := lt_of_pw pw (perm.nodup_iff.mpr nd)
      refine ⟨l, rfl, ⟨_, SqL.of e2⟩, ?_⟩
      refine for_list (K := K) (a := l) (xs := ys.map V.int) (fun j σ H' => Same H2 H' ∧ ∃ first left x4 x5 x6, σ = [some (.ref p), some (.int pt), some (.int first), some (.int left), x4, x5, x6] ∧ 0 ≤ first ∧ first ≤ z.many ∧ 0 ≤ left ∧ left = pt - ahM z first ∧ (∀ k ∈ ys.take j, k < first) ∧ (∀ k ∈ ys.drop j, first ≤ k)) ⟨Same.refl _, 0, pt, _, _, _, rfl, Int.le_refl _, by omega, p0, by rw [ah_zero W]; omega, (fun k hk => nomatch hk), fun k hk => ?_⟩ (fun j σ H' _ q => SqL.of (q.1 _ _ e2)) ?_ ?_
      · rw [List.drop_zero] at hk
        obtain ⟨e, he, ek⟩ := List.mem_map.mp (perm.mem_iff.mp hk)
        have := ok e he
        omega
      · rintro j y σ H3 hy ⟨s3, first, left, x4, x5, x6, rfl, f0, f1, l0, el, tk, dk⟩
        rw [List.getElem?_map] at hy
        cases hj : ys[j]? with
        | none => rw [hj] at hy; cases hy
        | some nn =>
          rw [hj] at hy
          have hy' : V.int nn = y := Option.some.inj hy
          subst hy'
          have hin : nn ∈ z.odd.map (·.1) := perm.mem_iff.mp (List.mem_of_getElem? hj)
          obtain ⟨e, he, ek⟩ := List.mem_map.mp hin
          have hm := ok e he
          rw [ek] at hm
          have dj := drop_at hj
          have fn : first ≤ nn := dk nn (by rw [dj]; exact List.mem_cons_self)
          have pj : (nn :: ys.drop (j + 1)).Pairwise (· < ·) := by rw [← dj]; exact slt.drop
          rw [List.pairwise_cons] at pj
          have gap : ∀ k ∈ z.odd.map (·.1), k < first ∨ nn ≤ k := fun k hk => by
            have : k ∈ ys.take j ++ ys.drop j := by rw [List.take_append_drop]; exact perm.mem_iff.mpr hk
            rcases List.mem_append.mp this with q | q
            · exact .inl (tk k q)
            · rw [dj] at q
              rcases List.mem_cons.mp q with q | q
              · exact .inr (by omega)
              · exact .inr (Int.le_of_lt (pj.1 k q))
          have ag := ah_gap gap fn
          have as := ah_succ W nn
          have s13 := s1.trans (s2.trans s3)
          refine ⟨_, rfl, _, rfl, _, _, rfl, rfl, _, rfl, p, C, dx, _, _, rfl, s13 _ _ h1, T.cl, T.n_common, fz_common _ _ _, _, _, rfl, rfl, .inr ⟨by omega, by omega⟩, ?_⟩
          obtain ⟨pl, epl⟩ : ∃ pl : Int, pl = (nn - first) * z.common := ⟨_, rfl⟩
          show gName 5 (V.int ((nn - first) * z.common)) _ _ _
          rw [← epl] at ag ⊢
          refine ⟨_, rfl, _, rfl, _, _, rfl, rfl, _, rfl, ?_⟩
          refine ite2 (fun c => ?_) (fun c => ?_)
          · have c' : left < pl := of_decide_eq_true c
            have dv : left / z.common < nn - first := by
              rw [Int.ediv_lt_iff_lt_mul (by omega), ← epl]
              exact c'
            refine ⟨s13, first, left, _, _, _, rfl, f0, l0, el, by omega, fun k hk => ?_⟩
            have := gap k hk
            omega
          · have c' : ¬ left < pl := fun q => c (decide_eq_true q)
            refine ⟨_, rfl, _, rfl, _, _, rfl, rfl, ?_⟩
            refine ⟨_, rfl, p, dx, _, rfl, s13 _ _ h1, fz_no _ _ _, _, rfl, p, d, z, nn, rfl, (S.same s13).r, Sm.of (by omega) (by omega), fun _ H4 s4 => ?_, fun no => absurd ⟨hm.1, hm.2.1⟩ no⟩
            refine ⟨_, rfl, _, rfl, _, _, rfl, rfl, _, rfl, ?_⟩
            refine ite2 (fun g => ?_) (fun g => ?_)
            · have g' : left - pl < szM z nn := of_decide_eq_true g
              refine ⟨_, rfl, _, rfl, (by show 2 ≤ sizeLine; decide), fun t ht => ?_⟩
              refine k1 p0 p1 nn t _ ⟨hm.1, hm.2.1⟩ (by omega) (by omega) (s13.trans (s4.trans (same_new ht _))) ?_
              rw [upd_same]
              have : pt - ahM z nn = left - pl := by omega
              rw [this]
            · have g' : ¬ left - pl < szM z nn := fun q => g (decide_eq_true q)
              refine ⟨_, rfl, _, rfl, _, _, rfl, rfl, ?_⟩
              refine ⟨_, rfl, _, _, rfl, rfl, ?_⟩
              refine ⟨s3.trans s4, nn + 1, left - pl - szM z nn, _, _, _, rfl, by omega, by omega, by omega, by omega, fun k hk => ?_, fun k hk => ?_⟩
              · rw [List.take_add_one, hj] at hk
                rcases List.mem_append.mp hk with q | q
                · have := tk k q
                  omega
                · simp at q
                  omega
              · have := pj.1 k hk
                omega
      · rintro σ H3 ⟨s3, first, left, x4, x5, x6, rfl, f0, f1, l0, el, tk, dk⟩
        rw [List.length_map, List.take_length] at tk
        have gap : ∀ k ∈ z.odd.map (·.1), k < first ∨ z.many ≤ k := fun k hk => .inl (tk k (perm.mem_iff.mpr hk))
        have ag := ah_gap gap f1
        have dv : left / z.common < z.many - first := by
          rw [Int.ediv_lt_iff_lt_mul (by omega)]
          omega
        refine ⟨s1.trans (s2.trans s3), first, left, _, _, _, rfl, f0, l0, el, by omega, fun k hk => ?_⟩
        have := tk k (perm.mem_iff.mpr hk)
        exact .inl this
    rintro σ H3 ⟨s3, first, left, x4, x5, x6, rfl, f0, l0, el, lm, gap⟩
    have d0 : 0 ≤ left / z.common := Int.ediv_nonneg l0 (by omega)
    have em : left % z.common = left - z.common * (left / z.common) := Int.emod_def _ _
    have m0' := Int.emod_nonneg left (show z.common ≠ 0 by omega)
    have m1' := Int.emod_lt_of_pos left (show 0 < z.common by omega)
    obtain ⟨qq, eq⟩ : ∃ qq : Int, qq = left / z.common := ⟨_, rfl⟩
    rw [← eq] at d0 em lm gap
    have ag := ah_gap (a := first) (b := first + qq) (fun k hk => by have := gap k hk; omega) (by omega)
    have e1 : (first + qq - first) * z.common = z.common * qq := by rw [show first + qq - first = qq by omega, Int.mul_comm]
    rw [e1] at ag
    have pn : szM z (first + qq) = z.common := sz_plain fun hk => by have := gap _ hk; omega
    refine ⟨_, rfl, _, rfl, _, rfl, p, C, dx, _, _, rfl, s3 _ _ h1, T.cl, T.n_common, fz_common _ _ _, _, _, rfl, rfl, ⟨by omega, by omega⟩, _, _, rfl, rfl, _, rfl, _, rfl, p, C, dx, _, _, rfl, s3 _ _ h1, T.cl, T.n_common, fz_common _ _ _, _, _, rfl, rfl, (by show 0 < z.common; omega), (by show 2 ≤ sizeLine; decide), fun t ht => ?_⟩
    refine k1 p0 p1 (first + qq) t _ ⟨by omega, lm⟩ (by omega) (by rw [pn]; omega) (s3.trans (same_new ht _)) ?_
    rw [upd_same]
    have : pt - ahM z (first + qq) = left % z.common := by omega
    rw [this, eq]
-- pick
abbrev s_pick : Stmt := top 21
theorem sc_pick : FnScope ["_law_draw", "_law_many", "_law_cell", "_law_got"] ["_law_draw", "_law_many"] (defScope s_pick) := ⟨rfl, rfl, rfl, by decide +kernel, rfl, by decide +kernel, by decide +kernel⟩
theorem ok_pick (F : Fun K "_law_pick" "_law_pick" s_pick f fd) (T : Tx K mg C cN cP cM cS cF tG tM tQ tR) : FnOk P w K mg base CX0 1 f fd ["_law_draw", "_law_many"] spPick := by
  refine F.ok sc_pick (fun vs H Q E h => ?_) (fun cdv A outer s H vs Q E hr h => ?_)
  · obtain ⟨a, many, rfl, _⟩ := h
    rfl
  · obtain ⟨a, many, rfl, D, m1, m2, k⟩ := h
    refine ⟨_, (C8.pss_cut (ps_if (PW.pt (pw_and (pt_cmpR op_lt (pe_ix ix_list (pv 0) pe_int (fun _ _ => rfl)) (pv 1) (nomark _)) (pw_and1 (pt_cmpR op_lt (pe_ix ix_list (pv 0) pe_int (fun _ _ => rfl)) (pe_callB call_len_seq (by rfl) T.no_len (by decide +kernel) (pa_cons (pe_ix ix_list (pv 0) pe_int (fun _ _ => rfl)) pa_nil)) (nomark _))))) (pss_cons (ps_set (i := 2) sc_pick.nd rfl (.inl rfl) (pe_ix ix_list (pe_ix ix_list (pv 0) pe_int (fun _ _ => rfl)) (pe_ix ix_list (pv 0) pe_int (fun _ _ => rfl)) (fun _ _ => rfl)))
        (pss_cons (ps_asg (pe_op op_add (pe_ix ix_list (pv 0) pe_int (fun _ _ => rfl)) pe_int) (pg_sub (pv 0) pe_int set_list))
        (pss_cons (ps_asg pe_int (pg_sub (pv 0) pe_int set_list))
        (pss_one (ps_if (pt_cmpR op_ge (pv 2) (pe_op op_pow pe_int pe_int) (nomark _)) (pss_one (ps_asg (pv 2) (pg_sub (pv 0) pe_int set_list))) (pss_one (ps_asg (pe_op op_mod (pe_op op_add (pe_ix ix_list (pv 0) pe_int (fun _ _ => rfl)) (pv 2)) pe_int) (pg_sub (pv 0) pe_int set_list)))))))) pss_nil)
      (pss_cons (ps_if (pt_cmpR op_ge (pe_ix ix_list (pv 0) pe_int (fun _ _ => rfl)) (pv 1) (nomark _)) (pss_cons (ps_set (i := 3) sc_pick.nd rfl (.inl rfl) (pe_op op_mod (pe_ix ix_list (pv 0) pe_int (fun _ _ => rfl)) (pv 1)))
        (pss_cons (ps_asg (pe_op op_fdiv (pe_ix ix_list (pv 0) pe_int (fun _ _ => rfl)) (pv 1)) (pg_sub (pv 0) pe_int set_list))
        (pss_one (ps_ret (pv 3))))) pss_nil)
      (pss_cons (ps_asg (pe_op op_add (pe_ix ix_list (pv 0) pe_int (fun _ _ => rfl)) pe_int) (pg_sub (pv 0) pe_int set_list))
      (pss_cons (ps_asg (pe_op op_mod (pe_op op_add (pe_op op_add (pe_op op_pow (pe_ix ix_list (pv 0) pe_int (fun _ _ => rfl)) pe_int) (pe_op op_mul pe_int (pe_ix ix_list (pv 0) pe_int (fun _ _ => rfl)))) pe_int) pe_int) (pg_sub (pv 0) pe_int set_list))
      (pss_one (ps_ret (pe_op op_mod (pe_op op_fdiv (pe_ix ix_list (pv 0) pe_int (fun _ _ => rfl)) pe_int) (pv 1)))))))), ?_⟩
    refine ⟨fun σ H1 => (∃ x y, σ = [some (.ref a), some (.int many), x, y]) ∧ DrawAt H1 a ∧ (∀ b, b ≠ a → H1 b = H b), ?_, ?_⟩
    · obtain ⟨l, ns, i, left, seed, n, h1, h2, hi, hs0, hs1⟩ := D
      have hl : l ≠ a := DrawAt.ne h1 h2
      refine ⟨_, rfl, _, _, _, _, rfl, rfl, SqL.of h1, atI_nat (j := 2) rfl, _, rfl, _, _, rfl, rfl, _, rfl, ?_⟩
      refine ite2 (fun c => ?_) (fun c => ?_)
      · refine ⟨_, rfl, _, _, _, _, rfl, rfl, SqL.of h1, atI_nat (j := 1) rfl, _, rfl, _, _, _, _, rfl, rfl, SqL.of h1, atI_nat (j := 0) rfl, _, _, rfl, .inl (SqL.of h2), _, _, rfl, rfl, _, rfl, ?_⟩
        refine ite2 (fun c => ?_) (fun c => ?_)
        · have c' : i < (((ns.map V.int).length : Nat) : Int) := of_decide_eq_true c
          rw [List.length_map] at c'
          have hk : i.toNat < ns.length := by omega
          have ek : i = ((i.toNat : Nat) : Int) := by omega
          have hat : atI (ns.map V.int) i = some (.int ns[i.toNat]) := by
            exact at_of ek (by rw [List.getElem?_map, List.getElem?_eq_getElem hk] <;> rfl)
          have g2 : ∀ o, upd H a o l = some (.lst (ns.map V.int)) := fun o => by rw [upd_ne hl]; exact h2
          refine ⟨_, rfl, _, _, _, _, rfl, rfl, SqL.of h1, atI_nat (j := 0) rfl, _, rfl, _, _, _, _, rfl, rfl, SqL.of h1, atI_nat (j := 1) rfl, _, _, _, _, rfl, rfl, SqL.of h2, hat, ?_⟩
          refine ⟨_, rfl, _, _, _, _, rfl, rfl, SqL.of h1, atI_nat (j := 1) rfl, _, _, rfl, rfl, _, rfl, _, _, _, 1, rfl, rfl, h1, rfl, ?_⟩
          refine ⟨_, rfl, _, _, _, 2, rfl, rfl, upd_same, rfl, ?_⟩
          rw [upd_upd]
          refine ⟨_, rfl, _, _, rfl, rfl, ⟨by decide, by decide, by decide⟩, _, _, rfl, rfl, _, rfl, ?_⟩
          refine ite2 (fun c => ?_) (fun c => ?_)
          · refine ⟨_, rfl, _, rfl, _, _, _, 2, rfl, rfl, upd_same, rfl, ?_⟩
            rw [upd_upd]
            exact ⟨⟨_, _, rfl⟩, ⟨l, ns, i + 1, ns[i.toNat], seed, n, upd_same, g2 _, by omega, hs0, hs1⟩, fun b hb => upd_ne hb⟩
          · refine ⟨_, rfl, _, _, _, _, rfl, rfl, SqL.of upd_same, atI_nat (j := 3) rfl, _, rfl, _, _, rfl, rfl, _, _, rfl, rfl, (by show (0 : Int) < 1000000007; decide), _, rfl, _, _, _, 3, rfl, rfl, upd_same, rfl, ?_⟩
            rw [upd_upd]
            exact ⟨⟨_, _, rfl⟩, ⟨l, ns, i + 1, 0, _, n, upd_same, g2 _, by omega, Int.emod_nonneg _ (by decide), Int.emod_lt_of_pos _ (by decide)⟩, fun b hb => upd_ne hb⟩
        · exact ⟨⟨_, _, rfl⟩, ⟨l, ns, i, left, seed, n, h1, h2, hi, hs0, hs1⟩, fun b hb => rfl⟩
      · exact ⟨⟨_, _, rfl⟩, ⟨l, ns, i, left, seed, n, h1, h2, hi, hs0, hs1⟩, fun b hb => rfl⟩
    · rintro σ H1 ⟨⟨x, y, rfl⟩, D1, fr⟩
      obtain ⟨l, ns, i, left, seed, n, h1, h2, hi, hs0, hs1⟩ := D1
      have hl : l ≠ a := DrawAt.ne h1 h2
      have g2 : ∀ o, upd H1 a o l = some (.lst (ns.map V.int)) := fun o => by rw [upd_ne hl]; exact h2
      have g3 : ∀ o b, b ≠ a → upd H1 a o b = H b := fun o b hb => by rw [upd_ne hb]; exact fr b hb
      refine ⟨_, rfl, _, _, _, _, rfl, rfl, SqL.of h1, atI_nat (j := 2) rfl, _, rfl, _, _, rfl, rfl, _, rfl, ?_⟩
      refine ite2 (fun c => ?_) (fun c => ?_)
      · refine ⟨_, rfl, _, _, _, _, rfl, rfl, SqL.of h1, atI_nat (j := 2) rfl, _, rfl, _, _, rfl, rfl, (show (0 : Int) < many by omega), ?_⟩
        refine ⟨_, rfl, _, _, _, _, rfl, rfl, SqL.of h1, atI_nat (j := 2) rfl, _, rfl, _, _, rfl, rfl, ⟨by omega, by omega⟩, _, rfl, _, _, _, 2, rfl, rfl, h1, rfl, ?_⟩
        refine ⟨_, rfl, ?_⟩
        exact k _ _ (Int.emod_nonneg _ (by omega)) (Int.emod_lt_of_pos _ (by omega)) ⟨l, ns, i, _, seed, n, upd_same, g2 _, hi, hs0, hs1⟩ (g3 _)
      · refine ⟨_, rfl, _, _, _, _, rfl, rfl, SqL.of h1, atI_nat (j := 4) rfl, _, _, rfl, rfl, _, rfl, _, _, _, 4, rfl, rfl, h1, rfl, ?_⟩
        refine ⟨_, rfl, _, _, _, _, rfl, rfl, SqL.of upd_same, atI_nat (j := 3) rfl, _, _, rfl, rfl, ⟨by decide, by decide, by omega⟩, _, rfl, _, _, _, _, rfl, rfl, SqL.of upd_same, atI_nat (j := 4) rfl, _, _, rfl, rfl, .inl ⟨by decide, by decide⟩, _, _, rfl, rfl, _, _, rfl, rfl, _, _, rfl, rfl, (by show (0 : Int) < 1000000007; decide), _, rfl, _, _, _, 3, rfl, rfl, upd_same, rfl, ?_⟩
        rw [upd_upd]
        refine ⟨_, rfl, _, _, _, _, rfl, rfl, SqL.of upd_same, atI_nat (j := 3) rfl, _, _, rfl, rfl, ⟨by decide, by decide⟩, _, rfl, _, _, rfl, rfl, (show (0 : Int) < many by omega), ?_⟩
        exact k _ _ (Int.emod_nonneg _ (by omega)) (Int.emod_lt_of_pos _ (by omega)) ⟨l, ns, i, left, _, _, upd_same, g2 _, hi, Int.emod_nonneg _ (by decide), Int.emod_lt_of_pos _ (by decide)⟩ (g3 _)
-- begin
abbrev s_begin : Stmt := top 19
theorem sc_begin : FnScope ["_law_script"] ["_law_script"] (defScope s_begin) := ⟨rfl, rfl, rfl, by decide +kernel, rfl, by decide +kernel, by decide +kernel⟩
theorem ok_begin (F : Fun K "_law_begin" "_law_begin" s_begin f fd) (T : Tx K mg C cN cP cM cS cF tG tM tQ tR) : FnOk P w K mg base CX0 1 f fd ["_law_script"] (spBegin K) := by
  refine F.ok sc_begin (fun vs H Q E h => ?_) (fun cdv A outer s H vs Q E hr h => ?_)
  · obtain ⟨a, ns, rfl, _⟩ := h
    rfl
  · obtain ⟨sc, ns, rfl, hS, k⟩ := h
    refine ⟨_, (pss_one (ps_ret (pe_lst (pa_cons (pe_callTy call_list_of (by rfl) T.no_list (by decide +kernel) (pa_cons (pe_slice sl_list (pv 0) po_none (po_some pe_int)) pa_nil)) (pa_cons pe_int (pa_cons pe_int (pa_cons pe_int (pa_cons pe_int pa_nil)))))))), ?_⟩
    refine ⟨_, rfl, _, rfl, _, _, rfl, hS, fun p hp => ?_⟩
    refine ⟨_, _, rfl, .inl (SqL.of upd_same), fun l hl => ?_⟩
    refine ⟨(by show 5 ≤ sizeLine; decide), fun a ha => ?_⟩
    have s0 := (same_new hp (.lst (cutV (ns.map V.int) none (some 63)))).trans (same_new hl (.lst (cutV (ns.map V.int) none (some 63))))
    obtain ⟨ms, em⟩ := cut_ints ns none (some 63)
    refine k a _ (s0.free ha) ⟨l, ms, 0, 0, 1, 0, upd_same, ?_, by decide, by decide, by decide⟩ (s0.trans (same_new ha _))
    rw [upd_ne (ne_of_none upd_same ha), upd_same, em]
-- same
abbrev s_same : Stmt := top 32
theorem sc_same : FnScope ["_law_found", "_law_due", "_law_k"] ["_law_found", "_law_due"] (defScope s_same) := ⟨rfl, rfl, rfl, by decide +kernel, rfl, by decide +kernel, by decide +kernel⟩
theorem ok_same {n : Nat} (F : Fun K "_law_same" "_law_same" s_same f fd) (T : Tx K mg C cN cP cM cS cF tG tM tQ tR) (D_same : Dn P w K mg base CX0 n "_law_same" ["_law_found", "_law_due"] (spSame K n)) : FnOk P w K mg base CX0 (n + 1) f fd ["_law_found", "_law_due"] (spSame K (n + 1)) := by
  refine F.ok sc_same (fun vs H Q E h => ?_) (fun cdv A outer s H vs Q E hr h => ?_)
  · obtain ⟨x, y, d, rfl, _⟩ := h
    rfl
  · obtain ⟨x, y, d, rfl, hx, hy, hd, hm, k⟩ := h
    refine ⟨_, (pss_cons (ps_if (pt_cmpR op_isN (pv 1) pe_non (nomark _)) (pss_one (ps_ret (pe_cmpR op_isN (pv 0) pe_non (nomark _)))) pss_nil)
      (pss_cons (ps_if (PW.pt (pw_or (pt_val (pe_callB call_isi (by rfl) T.no_isinstance (by decide +kernel) (pa_cons (pv 1) (pa_cons (pe_bltn (v := .ty "bool") (by rfl) T.no_bool (by decide +kernel) rfl) pa_nil)))) (pw_or1 (pt_val (pe_callB call_isi (by rfl) T.no_isinstance (by decide +kernel) (pa_cons (pv 0) (pa_cons (pe_bltn (v := .ty "bool") (by rfl) T.no_bool (by decide +kernel) rfl) pa_nil))))))) (pss_one (ps_ret (pe_and (pe_callB call_isi (by rfl) T.no_isinstance (by decide +kernel) (pa_cons (pv 1) (pa_cons (pe_bltn (v := .ty "bool") (by rfl) T.no_bool (by decide +kernel) rfl) pa_nil))) (pe_and (pe_callB call_isi (by rfl) T.no_isinstance (by decide +kernel) (pa_cons (pv 0) (pa_cons (pe_bltn (v := .ty "bool") (by rfl) T.no_bool (by decide +kernel) rfl) pa_nil))) (pe_one (pe_cmpR op_eq (pv 0) (pv 1) (nomark _))))))) pss_nil)
      (pss_cons (ps_if (pt_val (pe_callB call_isiT (by rfl) T.no_isinstance (by decide +kernel) (pa_cons (pv 1) (pa_cons (pe_tup (pa_cons (pe_bltn (v := .ty "int") (by rfl) T.no_int (by decide +kernel) rfl) (pa_cons (pe_bltn (v := .ty "str") (by rfl) T.no_str (by decide +kernel) rfl) pa_nil))) pa_nil)))) (pss_one (ps_ret (pe_and (pe_cmpR op_eq (pe_callB call_isi (by rfl) T.no_isinstance (by decide +kernel) (pa_cons (pv 0) (pa_cons (pe_bltn (v := .ty "int") (by rfl) T.no_int (by decide +kernel) rfl) pa_nil))) (pe_callB call_isi (by rfl) T.no_isinstance (by decide +kernel) (pa_cons (pv 1) (pa_cons (pe_bltn (v := .ty "int") (by rfl) T.no_int (by decide +kernel) rfl) pa_nil))) (nomark _)) (pe_and (pe_callB call_isiT (by rfl) T.no_isinstance (by decide +kernel) (pa_cons (pv 0) (pa_cons (pe_tup (pa_cons (pe_bltn (v := .ty "int") (by rfl) T.no_int (by decide +kernel) rfl) (pa_cons (pe_bltn (v := .ty "str") (by rfl) T.no_str (by decide +kernel) rfl) pa_nil))) pa_nil))) (pe_one (pe_cmpR op_eq (pv 0) (pv 1) (nomark _))))))) pss_nil)
      (pss_cons (ps_if (PW.pt (pw_or (pt_cmpR op_ne (pe_callB call_isi (by rfl) T.no_isinstance (by decide +kernel) (pa_cons (pv 0) (pa_cons (pe_bltn (v := .ty "list") (by rfl) T.no_list (by decide +kernel) rfl) pa_nil))) (pe_callB call_isi (by rfl) T.no_isinstance (by decide +kernel) (pa_cons (pv 1) (pa_cons (pe_bltn (v := .ty "list") (by rfl) T.no_list (by decide +kernel) rfl) pa_nil))) (nomark _)) (pw_or1 (pt_cmpR op_ne (pe_callB call_isi (by rfl) T.no_isinstance (by decide +kernel) (pa_cons (pv 0) (pa_cons (pe_bltn (v := .ty "tuple") (by rfl) T.no_tuple (by decide +kernel) rfl) pa_nil))) (pe_callB call_isi (by rfl) T.no_isinstance (by decide +kernel) (pa_cons (pv 1) (pa_cons (pe_bltn (v := .ty "tuple") (by rfl) T.no_tuple (by decide +kernel) rfl) pa_nil))) (nomark _))))) (pss_one (ps_ret pe_bl)) pss_nil)
      (pss_one (ps_ret (pe_and (pe_cmpR op_eq (pe_callB call_len_seq (by rfl) T.no_len (by decide +kernel) (pa_cons (pv 0) pa_nil)) (pe_callB call_len_seq (by rfl) T.no_len (by decide +kernel) (pa_cons (pv 1) pa_nil)) (nomark _)) (pe_one (pe_callB (cr_all rfl) (by rfl) T.no_all (by decide +kernel) (pa_cons (pe_lc (own := [("_law_k", 2)]) (g := gName 2) rfl sc_same.nd (pi_range1 (by rfl) T.no_range (pa_cons (pe_callB call_len_seq (by rfl) T.no_len (by decide +kernel) (pa_cons (pv 1) pa_nil)) pa_nil)) (blkOk_by (N := ["_law_found", "_law_due", "_law_k"]) (sc := defScope s_same) (by decide +kernel)) (fun _ _ _ _ _ => (pg_name (i := 2) sc_same.nd rfl (Or.inl rfl))) (fun _ _ _ _ _ => pts_nil) (fun _ _ _ _ _ => (pe_callD D_same hr (by rfl) pass0 (pa_cons (pe_ix (ixQk (K := K) rfl) (pv 0) (pv 2) (fun _ _ => rfl)) (pa_cons (pe_ix (ixQk (K := K) rfl) (pv 1) (pv 2) (fun _ _ => rfl)) pa_nil))))) pa_nil)))))))))), ?_⟩
    cases d with
    | dict kvs => cases hx
    | none =>
      cases hx
      cases hy
      exact ⟨_, rfl, rfl, _, rfl, ifT rfl ⟨_, rfl, rfl, k H (Same.refl H)⟩⟩
    | bool b =>
      cases hx
      cases hy
      have ty : ∀ H, TyX K H (.bl b) (.type "bool") := fun H => .base (.bl b)
      have kb : kitB "bool" "bool" = some true := by decide +kernel
      refine ⟨_, rfl, rfl, _, rfl, ?_⟩
      refine ifF (by simp) ?_
      refine ⟨_, rfl, _, _, _, _, true, rfl, .ty _, ty _, kit_ty kb, _, rfl, ?_⟩
      refine ifT rfl ?_
      refine ifT rfl ?_
      refine ⟨_, rfl, _, _, _, _, true, rfl, .ty _, ty _, kit_ty kb, _, rfl, ?_⟩
      refine ifT rfl ?_
      refine ⟨_, rfl, _, _, _, _, true, rfl, .ty _, ty _, kit_ty kb, _, rfl, ?_⟩
      refine ifT rfl ?_
      refine ⟨_, rfl, _, rfl, rfl, ?_⟩
      rw [decide_eq_true rfl]
      exact k H (Same.refl H)
    | int b =>
      cases hx
      cases hy
      have ty : ∀ H, TyX K H (.int b) (.type "int") := fun H => .base (.int b)
      have kb : kitB "int" "bool" = some false := by decide +kernel
      have ki : kitB "int" "int" = some true := by decide +kernel
      have ks : kitB "int" "str" = some false := by decide +kernel
      refine ⟨_, rfl, rfl, _, rfl, ?_⟩
      refine ifF (by simp) ?_
      refine ⟨_, rfl, _, _, _, _, false, rfl, .ty _, ty _, kit_ty kb, _, rfl, ?_⟩
      refine ifF (by simp) ?_
      refine ⟨_, rfl, _, _, _, _, false, rfl, .ty _, ty _, kit_ty kb, _, rfl, ?_⟩
      refine ifF (by simp) ?_
      refine ⟨_, rfl, (by show 2 ≤ sizeLine; decide), fun t1 nt1 => ⟨_, _, _, _, _, _, rfl, upd_same, cls2 _ _, ty _, kit2 ki ks, _, rfl, ?_⟩⟩
      refine ifT rfl ?_
      refine ⟨_, rfl, _, _, _, _, true, rfl, .ty _, ty _, kit_ty ki, _, rfl, _, _, _, _, true, rfl, .ty _, ty _, kit_ty ki, rfl, _, rfl, ?_⟩
      refine ifT rfl ?_
      refine ⟨_, rfl, (by show 2 ≤ sizeLine; decide), fun t2 nt2 => ⟨_, _, _, _, _, _, rfl, upd_same, cls2 _ _, ty _, kit2 ki ks, _, rfl, ?_⟩⟩
      refine ifT rfl ?_
      refine ⟨_, rfl, _, rfl, rfl, ?_⟩
      rw [decide_eq_true rfl]
      exact k _ ((same_new nt1 _).trans (same_new nt2 _))
    | str b =>
      cases hx
      cases hy
      have ty : ∀ H, TyX K H (.str b) (.type "str") := fun H => .base (.str b)
      have kb : kitB "str" "bool" = some false := by decide +kernel
      have ki : kitB "str" "int" = some false := by decide +kernel
      have ks : kitB "str" "str" = some true := by decide +kernel
      refine ⟨_, rfl, rfl, _, rfl, ?_⟩
      refine ifF (by simp) ?_
      refine ⟨_, rfl, _, _, _, _, false, rfl, .ty _, ty _, kit_ty kb, _, rfl, ?_⟩
      refine ifF (by simp) ?_
      refine ⟨_, rfl, _, _, _, _, false, rfl, .ty _, ty _, kit_ty kb, _, rfl, ?_⟩
      refine ifF (by simp) ?_
      refine ⟨_, rfl, (by show 2 ≤ sizeLine; decide), fun t1 nt1 => ⟨_, _, _, _, _, _, rfl, upd_same, cls2 _ _, ty _, kit2 ki ks, _, rfl, ?_⟩⟩
      refine ifT rfl ?_
      refine ⟨_, rfl, _, _, _, _, false, rfl, .ty _, ty _, kit_ty ki, _, rfl, _, _, _, _, false, rfl, .ty _, ty _, kit_ty ki, rfl, _, rfl, ?_⟩
      refine ifT rfl ?_
      refine ⟨_, rfl, (by show 2 ≤ sizeLine; decide), fun t2 nt2 => ⟨_, _, _, _, _, _, rfl, upd_same, cls2 _ _, ty _, kit2 ki ks, _, rfl, ?_⟩⟩
      refine ifT rfl ?_
      refine ⟨_, rfl, _, rfl, rfl, ?_⟩
      rw [decide_eq_true rfl]
      exact k _ ((same_new nt1 _).trans (same_new nt2 _))
    | list ds =>
      have hd' : PyData.depthAll ds < n := by simp only [PyData.depth] at hd; omega
      have kb : kitB "list" "bool" = some false := by decide +kernel
      have ki : kitB "list" "int" = some false := by decide +kernel
      have ks : kitB "list" "str" = some false := by decide +kernel
      have kl : kitB "list" "list" = some true := by decide +kernel
      have kt : kitB "list" "tuple" = some false := by decide +kernel
      cases hx with
      | @lst a xs _ sx ax =>
      cases hy with
      | @lst b ys _ sy ay =>
      have lx := dpAll_len ax
      have ly := dpAll_len ay
      have hm1 : ds.length ≤ 100000 := by simp only [mxl] at hm; omega
      have hm2 : mxlAll ds ≤ 100000 := by simp only [mxl] at hm; omega
      have hsl := sizeLine_eq
      refine ⟨_, rfl, rfl, _, rfl, ?_⟩
      refine ifF (by simp) ?_
      refine ⟨_, rfl, _, _, _, _, false, rfl, .ty _, tyx_list sy, kit_ty kb, _, rfl, ?_⟩
      refine ifF (by simp) ?_
      refine ⟨_, rfl, _, _, _, _, false, rfl, .ty _, tyx_list sx, kit_ty kb, _, rfl, ?_⟩
      refine ifF (by simp) ?_
      refine ⟨_, rfl, (by show 2 ≤ sizeLine; decide), fun t1 nt1 => ⟨_, _, _, _, _, _, rfl, upd_same, cls2 _ _, tyx_list ((same_new nt1 _).seq sy), kit2 ki ks, _, rfl, ?_⟩⟩
      refine ifF (by simp) ?_
      have s1 := same_new nt1 (.tup [.ty "int", .ty "str"])
      have sx1 := s1.seq sx
      have sy1 := s1.seq sy
      refine ⟨_, rfl, _, _, _, _, true, rfl, .ty _, tyx_list sx1, kit_ty kl, _, rfl, _, _, _, _, true, rfl, .ty _, tyx_list sy1, kit_ty kl, rfl, _, rfl, ?_⟩
      refine ifF (by simp) ?_
      refine ⟨_, rfl, _, _, _, _, false, rfl, .ty _, tyx_list sx1, kit_ty kt, _, rfl, _, _, _, _, false, rfl, .ty _, tyx_list sy1, kit_ty kt, rfl, _, rfl, ?_⟩
      refine ifF (by simp) ?_
      refine ⟨_, rfl, _, _, rfl, .inl sx1, _, rfl, _, _, rfl, .inl sy1, rfl, _, rfl, ?_⟩
      refine ifT (by simp [lx, ly]) ?_
      refine ⟨_, rfl, _, _, rfl, .inl sy1, _, rfl, (by omega), (by omega), fun D hD => ?_⟩
      generalize upd H t1 (HO.tup [V.ty "int", V.ty "str"]) = H1 at *
      refine lc_range (lo := 0) (n := ((ys.length : Nat) : Int).toNat) (fun i H2 => Same H1 H2 ∧ H2 D = some (.lst (List.replicate i (V.bl true)))) ⟨same_new hD _, upd_same⟩ ?_ ?_
      · rintro i H2 hi ⟨s2, e2⟩
        have hi' : i < ds.length := by omega
        have ed : ds[i]? = some ds[i] := List.getElem?_eq_getElem hi'
        obtain ⟨v, ev, dv⟩ := dpAll_get ax ed
        obtain ⟨u, eu, du⟩ := dpAll_get ay ed
        have nd : (ds[i]).depth < n := Nat.lt_of_le_of_lt (depth_get ed) hd'
        refine ⟨rfl, ?_⟩
        unfold tYes
        refine ifT rfl ?_
        refine ⟨_, rfl, _, rfl, .inl ⟨_, _, _, _, rfl, rfl, s2.seq sx1, at_of (by simp) ev, _, rfl, _, rfl, .inl ⟨_, _, _, _, rfl, rfl, s2.seq sy1, at_of (by simp) eu, _, _, _, rfl, dp_same (s1.trans s2) _ _ dv, dp_same (s1.trans s2) _ _ du, nd, Nat.le_trans (mxl_get ed) hm2, fun H3 s3 => ?_⟩⟩⟩
        refine ⟨_, s3 _ _ e2, (by rw [List.length_replicate]; omega), ?_, ?_⟩
        · intro b' o q
          rw [upd_ne (ne_of_none q hD)]
          exact s3 _ _ (s2 _ _ q)
        · rw [upd_same, rep_succ]
      · rintro H2 ⟨s2, e2⟩
        refine ⟨_, List.replicate ys.length true, rfl, SqL.of (by rw [e2, ← rep_bl]; simp), ?_⟩
        rw [rep_all]
        exact k _ (s1.trans s2)
    | tuple ds =>
      have hd' : PyData.depthAll ds < n := by simp only [PyData.depth] at hd; omega
      have kb : kitB "tuple" "bool" = some false := by decide +kernel
      have ki : kitB "tuple" "int" = some false := by decide +kernel
      have ks : kitB "tuple" "str" = some false := by decide +kernel
      have kl : kitB "tuple" "list" = some false := by decide +kernel
      have kt : kitB "tuple" "tuple" = some true := by decide +kernel
      cases hx with
      | @tup a xs _ sx ax =>
      cases hy with
      | @tup b ys _ sy ay =>
      have lx := dpAll_len ax
      have ly := dpAll_len ay
      have hm1 : ds.length ≤ 100000 := by simp only [mxl] at hm; omega
      have hm2 : mxlAll ds ≤ 100000 := by simp only [mxl] at hm; omega
      have hsl := sizeLine_eq
      refine ⟨_, rfl, rfl, _, rfl, ?_⟩
      refine ifF (by simp) ?_
      refine ⟨_, rfl, _, _, _, _, false, rfl, .ty _, tyx_tuple sy, kit_ty kb, _, rfl, ?_⟩
      refine ifF (by simp) ?_
      refine ⟨_, rfl, _, _, _, _, false, rfl, .ty _, tyx_tuple sx, kit_ty kb, _, rfl, ?_⟩
      refine ifF (by simp) ?_
      refine ⟨_, rfl, (by show 2 ≤ sizeLine; decide), fun t1 nt1 => ⟨_, _, _, _, _, _, rfl, upd_same, cls2 _ _, tyx_tuple (Same.tup (same_new nt1 _) sy), kit2 ki ks, _, rfl, ?_⟩⟩
      refine ifF (by simp) ?_
      have s1 := same_new nt1 (.tup [.ty "int", .ty "str"])
      have sx1 := Same.tup s1 sx
      have sy1 := Same.tup s1 sy
      refine ⟨_, rfl, _, _, _, _, false, rfl, .ty _, tyx_tuple sx1, kit_ty kl, _, rfl, _, _, _, _, false, rfl, .ty _, tyx_tuple sy1, kit_ty kl, rfl, _, rfl, ?_⟩
      refine ifF (by simp) ?_
      refine ⟨_, rfl, _, _, _, _, true, rfl, .ty _, tyx_tuple sx1, kit_ty kt, _, rfl, _, _, _, _, true, rfl, .ty _, tyx_tuple sy1, kit_ty kt, rfl, _, rfl, ?_⟩
      refine ifF (by simp) ?_
      refine ⟨_, rfl, _, _, rfl, .inr sx1, _, rfl, _, _, rfl, .inr sy1, rfl, _, rfl, ?_⟩
      refine ifT (by simp [lx, ly]) ?_
      refine ⟨_, rfl, _, _, rfl, .inr sy1, _, rfl, (by omega), (by omega), fun D hD => ?_⟩
      generalize upd H t1 (HO.tup [V.ty "int", V.ty "str"]) = H1 at *
      refine lc_range (lo := 0) (n := ((ys.length : Nat) : Int).toNat) (fun i H2 => Same H1 H2 ∧ H2 D = some (.lst (List.replicate i (V.bl true)))) ⟨same_new hD _, upd_same⟩ ?_ ?_
      · rintro i H2 hi ⟨s2, e2⟩
        have hi' : i < ds.length := by omega
        have ed : ds[i]? = some ds[i] := List.getElem?_eq_getElem hi'
        obtain ⟨v, ev, dv⟩ := dpAll_get ax ed
        obtain ⟨u, eu, du⟩ := dpAll_get ay ed
        have nd : (ds[i]).depth < n := Nat.lt_of_le_of_lt (depth_get ed) hd'
        refine ⟨rfl, ?_⟩
        unfold tYes
        refine ifT rfl ?_
        refine ⟨_, rfl, _, rfl, .inr (.inl ⟨_, _, _, _, rfl, rfl, Same.tup s2 sx1, at_of (by simp) ev, _, rfl, _, rfl, .inr (.inl ⟨_, _, _, _, rfl, rfl, Same.tup s2 sy1, at_of (by simp) eu, _, _, _, rfl, dp_same (s1.trans s2) _ _ dv, dp_same (s1.trans s2) _ _ du, nd, Nat.le_trans (mxl_get ed) hm2, fun H3 s3 => ?_⟩)⟩)⟩
        refine ⟨_, s3 _ _ e2, (by rw [List.length_replicate]; omega), ?_, ?_⟩
        · intro b' o q
          rw [upd_ne (ne_of_none q hD)]
          exact s3 _ _ (s2 _ _ q)
        · rw [upd_same, rep_succ]
      · rintro H2 ⟨s2, e2⟩
        refine ⟨_, List.replicate ys.length true, rfl, SqL.of (by rw [e2, ← rep_bl]; simp), ?_⟩
        rw [rep_all]
        exact k _ (s1.trans s2)
theorem same_all (F : Fun K "_law_same" "_law_same" s_same f fd) (T : Tx K mg C cN cP cM cS cF tG tM tQ tR) (b : Binds K fd ["_law_found", "_law_due"] []) (m : mg "_law_same" = some (.ref f)) (kp : PySem.W.keepIn K (.ref f) = true) :
    ∀ n : Nat, Dn P w K mg base CX0 n "_law_same" ["_law_found", "_law_due"] (spSame K n)
  | 0 => ⟨f, fd, same_none, m, kp, b⟩
  | n + 1 => ⟨f, fd, ok_same F T (same_all F T b m kp n), m, kp, b⟩
end
end K04

set_option Elab.async false
set_option linter.all false
set_option maxRecDepth 100000
set_option maxHeartbeats 4000000
namespace K04
open PySem L2 Gs
section
variable {P : Program} {w : World} {K : PySem.W.Frag} {mg : Str → Option Value} {base : Heap} {f : Addr} {fd : FuncData} {C cN cP cM cS cF : Addr} {tG tM tQ tR : Tok}
abbrev s_Sizes_keep : Stmt := inClass (top 17) 12
theorem sc_Sizes_keep : FnScope ["self", "number", "own", "hidden"] ["self", "number", "own", "hidden"] (defScope s_Sizes_keep) := ⟨rfl, rfl, rfl, by decide +kernel, rfl, by decide +kernel, by decide +kernel⟩
theorem ok_keep (F : Fun K "keep" "Sizes.keep" s_Sizes_keep f fd) (T : Tx K mg C cN cP cM cS cF tG tM tQ tR)  : FnOk P w K mg base (L2.CX P w) 1 f fd ["self", "number", "own", "hidden"] (spKeep C cF) := by
  refine F.okX sc_Sizes_keep (fun vs H Q E h => ?_) (fun cdv A outer s H vs Q E hr h => ?_)
  · obtain ⟨p, d, z, i, own, hid, rfl, _⟩ := h
    rfl
  · obtain ⟨p, d, z, i, own, hid, rfl, S, hi, o0, o1, k1, k2⟩ := h
    have hu := hu_of hr
    obtain ⟨dx, kvs, h1, h2, h3, W⟩ := id S
    have npd : p ≠ d := ne_of h1 h2 (by intro e; cases e)
    refine ⟨_, (C8.pss_cut (ps_if (PW.pt (pw_and (pt_cmpR op_eq (pv 2) (pe_fld (pv 0) rfl) (nomark _)) (pw_and1 (pt_not (pt_val (pv 3)))))) (pss_cons (ps_expr (pe_dpop2 (pe_fld (pv 0) rfl) (pv 1) pe_non ⟨rfl, rfl, rfl, rfl⟩))
        (pss_one ps_retN)) pss_nil)
      (C8.pss_cut (ps_if (PW.pt (pw_and (pt_cmp (pc_dnotin hu (pv 1) (pe_fld (pv 0) rfl))) (pw_and1 (pt_cmpR op_ge (pe_callB call_lenD (by rfl) T.no_len (by decide +kernel) (pa_cons (pe_fld (pv 0) rfl) pa_nil)) (glI (by rfl) T.mg_MOST_ODD) (nomark _))))) (pss_one (ps_raise rfl (takes_of rfl rfl rfl rfl) (SkE.pmk_own1 PySem.F.excBase_ValueError T.x_Full.ex T.x_Full.g T.x_Full.kp (raises_own T.x_Full.b T.x_Full.t) (by rfl) (pe_joined (.cons (pe_fmt (glI (by rfl) T.mg_MOST_ODD)) (.cons pe_str .nil)))))) pss_nil)
      (pss_one (ps_dput hu (pe_fld (pv 0) rfl) (pv 1) (pe_tup (pa_cons (pv 2) (pa_cons (pv 3) pa_nil))) rfl)))), ?_⟩
    refine ⟨fun σ H' => σ = start ["self", "number", "own", "hidden"] [.ref p, .int i, .int own, .bl hid] ∧ H = H' ∧ ¬ (own = z.common ∧ hid = false), ?_, ?_⟩
    · refine ⟨_, rfl, _, rfl, p, C, dx, _, _, rfl, h1, T.cl, T.n_common, fz_common _ _ _, rfl, _, rfl, ?_⟩
      refine ite2 (fun c => ?_) (fun c => ?_)
      · have c' : own = z.common := by have := of_decide_eq_true c; injection this
        refine ⟨_, rfl, _, rfl, ?_⟩
        refine ite2 (fun g => ?_) (fun g => ?_)
        · have g' : hid = false := by cases hid <;> simp_all
          have full : ¬ fullM z i own hid := fun q => q.1 ⟨c', g'⟩
          refine ⟨_, rfl, p, C, dx, _, _, rfl, h1, T.cl, T.n_odd, fz_odd _ _ _, d, rfl, .inl ⟨kvs, .inl h2⟩, _, rfl, kvs, Sum.inl i, h2, rfl, pop_both (z := .non) h2 fun v => ?_⟩
          refine k1 full _ (Frm.upd _) ⟨dx, _, (by rw [upd_ne npd]; exact h1), upd_same, ?_, keep_wf W hi o0 o1 full⟩
          have e : (keepM z i own hid).odd = dropO z.odd i := by unfold keepM; simp only [if_pos (show own = z.common ∧ hid = false from ⟨c', g'⟩)]
          rw [e]
          exact (h3.mono (TupSame.upd h2 (fun xs e => by cases e) _)).drop i
        · exact ⟨rfl, rfl, fun q => g (by rw [q.2]; rfl)⟩
      · refine ifF (by simp) ?_
        exact ⟨rfl, rfl, fun q => c (decide_eq_true (congrArg V.int q.1))⟩
    rintro σ H' ⟨rfl, rfl, nc⟩
    refine ⟨fun σ H' => σ = start ["self", "number", "own", "hidden"] [.ref p, .int i, .int own, .bl hid] ∧ H = H' ∧ ¬ fullM z i own hid, ?_, ?_⟩
    · refine ⟨_, rfl, _, rfl, p, C, dx, _, _, rfl, h1, T.cl, T.n_odd, fz_odd _ _ _, d, _, rfl, .inl ⟨kvs, Sum.inl i, .inl h2, rfl, rfl⟩, _, rfl, ?_⟩
      refine ite2 (fun c => ?_) (fun c => ?_)
      · have c' : look z.odd i = none := by
          rcases h3.look i with ⟨e1, e2⟩ | ⟨u, x, e1, e2, e3⟩
          · exact e2
          · rw [e1] at c; cases c
        refine ⟨_, rfl, p, C, dx, _, _, rfl, h1, T.cl, T.n_odd, fz_odd _ _ _, d, kvs, rfl, h2, _, _, rfl, rfl, _, rfl, ?_⟩
        refine ite2 (fun g => ?_) (fun g => ?_)
        · have g' : (60 : Int) ≤ (kvs.length : Int) := of_decide_eq_true g
          rw [h3.len] at g'
          refine .inr ⟨_, rfl, by decide, _, rfl, ?_, _, rfl, ?_, k2 ⟨nc, c', by omega⟩⟩
          · exact small (by decide +kernel)
          · exact small (by decide +kernel)
        · have g' : ¬ (60 : Int) ≤ (kvs.length : Int) := fun q => g (decide_eq_true q)
          rw [h3.len] at g'
          exact ⟨rfl, rfl, fun q => g' (by have := q.2.2; omega)⟩
      · refine ifF (by simp) ?_
        refine ⟨rfl, rfl, fun q => c ?_⟩
        rcases h3.look i with ⟨e1, e2⟩ | ⟨u, x, e1, e2, e3⟩
        · rw [e1]; rfl
        · rw [q.2.1] at e2; cases e2
    rintro σ H' ⟨rfl, rfl, nf⟩
    refine ⟨_, rfl, _, rfl, (by show 2 ≤ sizeLine; decide), fun t ht => ?_⟩
    have s1 := same_new ht (.tup [.int own, .bl hid])
    have h21 := s1 _ _ h2
    have le := W.le
    refine ⟨_, rfl, p, C, dx, _, _, rfl, s1 _ _ h1, T.cl, T.n_odd, fz_odd _ _ _, _, rfl, d, _, rfl, .inl ⟨kvs, Sum.inl i, h21, rfl, Nat.lt_of_le_of_lt (by rw [h3.len]; exact le) (show 60 < sizeLine by decide), rfl⟩, ?_⟩
    have ts : TupSame (upd H t (.tup [.int own, .bl hid])) (upd (upd H t (.tup [.int own, .bl hid])) d (.dK (putK kvs (Sum.inl i) (.ref t)))) := TupSame.upd h21 (fun xs e => by cases e) _
    refine k1 nf _ ((Frm.of s1).trans (Frm.upd _)) ⟨dx, _, (by rw [upd_ne npd]; exact s1 _ _ h1), upd_same, ?_, keep_wf W hi o0 o1 nf⟩
    have e : (keepM z i own hid).odd = putO z.odd i (own, hid) := by unfold keepM; simp only [if_neg nc]
    rw [e]
    exact ((h3.mono (TupSame.of s1)).mono ts).put (ts _ _ upd_same)
abbrev s_Sizes_give : Stmt := inClass (top 17) 13
theorem sc_Sizes_give : FnScope ["self", "number", "size", "hidden"] ["self", "number", "size"] (defScope s_Sizes_give) := ⟨rfl, rfl, rfl, by decide +kernel, rfl, by decide +kernel, by decide +kernel⟩
theorem ok_give (F : Fun K "give" "Sizes.give" s_Sizes_give f fd) (T : Tx K mg C cN cP cM cS cF tG tM tQ tR) (D_check_size : Dn P w K mg base (L2.CX P w) 1 "check_size" ["size"] (spCS cS)) (M_own : Mn P w K mg base (L2.CX P w) 3 C "own" ["self", "number"] (spOwn C cN)) (M_hidden : Mn P w K mg base (L2.CX P w) 3 C "hidden" ["self", "number"] (spHid C cN)) (M_keep : Mn P w K mg base (L2.CX P w) 1 C "keep" ["self", "number", "own", "hidden"] (spKeep C cF)) : FnOk P w K mg base (L2.CX P w) 4 f fd ["self", "number", "size"] (spGive C cN cS cF) := by
  refine F.okX sc_Sizes_give (fun vs H Q E h => ?_) (fun cdv A outer s H vs Q E hr h => ?_)
  · obtain ⟨p, d, z, i, size, rfl, _⟩ := h
    rfl
  · obtain ⟨p, d, z, i, size, rfl, S, hi, hs, k1, k2, k3, k4⟩ := h
    obtain ⟨dx, kvs, h1, h2, h3, W⟩ := id S
    refine ⟨_, (pss_cons (ps_set (i := 3) sc_Sizes_give.nd rfl (.inl rfl) (pe_methD T.cl M_hidden (hr.mono (by omega)) (passes_call (takes_of rfl rfl rfl rfl) (fun _ _ _ _ h => h)) (pv 0) (pa_cons (pv 1) pa_nil)))
      (pss_cons (ps_expr (pe_callD D_check_size (hr.mono (by omega)) (by rfl) (passes_call (takes_of rfl rfl rfl rfl) (fun _ _ _ _ h => h)) (pa_cons (pv 2) pa_nil)))
      (pss_one (ps_expr (pe_methD T.cl M_keep (hr.mono (by omega)) (passes_call (takes_of rfl rfl rfl rfl) (fun _ _ _ _ h => h)) (pv 0) (pa_cons (pv 1) (pa_cons (pv 2) (pa_cons (pv 3) pa_nil)))))))), ?_⟩
    refine ⟨_, rfl, p, dx, _, rfl, h1, fz_no _ _ _, _, rfl, p, d, z, i, rfl, S.r, hi, fun yes H1 s1 => ?_, k2⟩
    refine ⟨_, rfl, size, rfl, hs, fun ys => ?_, fun no => k3 yes no H1 s1⟩
    refine ⟨_, rfl, p, dx, _, rfl, s1 _ _ h1, fz_no _ _ _, _, rfl, _, rfl, _, rfl, p, d, z, i, size, _, rfl, S.same s1, yes, ys.1, ys.2, fun nf H' fr S' => ?_, fun fu => k4 yes ys.1 ys.2 fu H1 s1⟩
    exact k1 yes ys.1 ys.2 nf H' ((Frm.of s1).trans fr) S'
abbrev s_Sizes_hide : Stmt := inClass (top 17) 15
theorem sc_Sizes_hide : FnScope ["self", "number"] ["self", "number"] (defScope s_Sizes_hide) := ⟨rfl, rfl, rfl, by decide +kernel, rfl, by decide +kernel, by decide +kernel⟩
theorem ok_hide (F : Fun K "hide" "Sizes.hide" s_Sizes_hide f fd) (T : Tx K mg C cN cP cM cS cF tG tM tQ tR) (M_own : Mn P w K mg base (L2.CX P w) 3 C "own" ["self", "number"] (spOwn C cN)) (M_hidden : Mn P w K mg base (L2.CX P w) 3 C "hidden" ["self", "number"] (spHid C cN)) (M_keep : Mn P w K mg base (L2.CX P w) 1 C "keep" ["self", "number", "own", "hidden"] (spKeep C cF)) : FnOk P w K mg base (L2.CX P w) 4 f fd ["self", "number"] (spTo C cN cF gHide) := by
  refine F.okX sc_Sizes_hide (fun vs H Q E h => ?_) (fun cdv A outer s H vs Q E hr h => ?_)
  · obtain ⟨p, d, z, i, rfl, _⟩ := h
    rfl
  · obtain ⟨p, d, z, i, rfl, S, hi, k1, k2, k3⟩ := h
    obtain ⟨dx, kvs, h1, h2, h3, W⟩ := id S
    have rg := st_range W i
    refine ⟨_, (pss_one (ps_expr (pe_methD T.cl M_keep (hr.mono (by omega)) (passes_call (takes_of rfl rfl rfl rfl) (fun _ _ _ _ h => h)) (pv 0) (pa_cons (pv 1) (pa_cons (pe_methD T.cl M_own (hr.mono (by omega)) (passes_call (takes_of rfl rfl rfl rfl) (fun _ _ _ _ h => h)) (pv 0) (pa_cons (pv 1) pa_nil)) (pa_cons pe_bl pa_nil)))))), ?_⟩
    refine ⟨_, rfl, p, dx, _, rfl, h1, fz_no _ _ _, _, rfl, _, rfl, p, dx, _, rfl, h1, fz_no _ _ _, _, rfl, p, d, z, i, rfl, S.r, hi, fun yes H1 s1 => ?_, k2⟩
    refine ⟨p, d, z, i, _, _, rfl, S.same s1, yes, rg.1, rg.2, fun nf H' fr S' => ?_, fun fu => k3 yes fu H1 s1⟩
    exact k1 yes nf H' ((Frm.of s1).trans fr) S'
abbrev s_Sizes_put : Stmt := inClass (top 17) 17
theorem sc_Sizes_put : FnScope ["self", "number", "many", "moved", "old"] ["self", "number", "many"] (defScope s_Sizes_put) := ⟨rfl, rfl, rfl, by decide +kernel, rfl, by decide +kernel, by decide +kernel⟩
theorem ok_put (F : Fun K "put" "Sizes.put" s_Sizes_put f fd) (T : Tx K mg C cN cP cM cS cF tG tM tQ tR) (D_check_number : Dn P w K mg base (L2.CX P w) 1 "check_number" ["number", "count"] (spNum cN)) : FnOk P w K mg base (L2.CX P w) 2 f fd ["self", "number", "many"] (spPut C cN cM) := by
  refine F.okX sc_Sizes_put (fun vs H Q E h => ?_) (fun cdv A outer s H vs Q E hr h => ?_)
  · obtain ⟨p, d, z, i, n, rfl, _⟩ := h
    rfl
  · obtain ⟨p, d, z, i, n, rfl, S, hi, hn, big, k1, k2, k3⟩ := h
    have hu := hu_of hr
    obtain ⟨dx, kvs, h1, h2, h3, W⟩ := id S
    have W' := W
    obtain ⟨m0, m1, c0, c1, nd, le, ok⟩ := W'
    have npd : p ≠ d := ne_of h1 h2 (by intro e; cases e)
    refine ⟨_, (pss_cons (ps_expr (pe_callD D_check_number (hr.mono (by omega)) (by rfl) (passes_call (takes_of rfl rfl rfl rfl) (fun _ _ _ _ h => h)) (pa_cons (pv 1) (pa_cons (pe_op op_add (pe_fld (pv 0) rfl) pe_int) pa_nil))))
      (C8.pss_cut (ps_if (PW.pt (pw_or (pt_cmpR op_lt (pv 2) pe_int (nomark _)) (pw_or1 (pt_cmpR op_gt (pv 2) (glI (by rfl) T.mg_MOST_PUT) (nomark _))))) (pss_one (ps_raise rfl (takes_of rfl rfl rfl rfl) (SkE.pmk_own1 PySem.F.excBase_ValueError T.x_BadMany.ex T.x_BadMany.g T.x_BadMany.kp (raises_own T.x_BadMany.b T.x_BadMany.t) (by rfl) (pe_joined (.cons (pe_fmt (pv 2)) (.cons pe_str (.cons (pe_fmt (glI (by rfl) T.mg_MOST_PUT)) .nil))))))) pss_nil)
      (pss_cons (ps_set (i := 3) sc_Sizes_put.nd rfl (.inl rfl) pe_dnewK)
      (pss_cons (ps_lock (ps_for (passes_of rfl) rfl (pi_keys (pe_fld (pv 0) rfl)) (pg_name (i := 4) sc_Sizes_put.nd rfl (.inl rfl))
        (pss_one (ps_dput hu (pv 3) (pe_ifExp (pt_cmpR op_lt (pv 4) (pv 1) (nomark _)) (pv 4) (pe_op op_add (pv 4) (pv 2))) (pe_dget hu (pe_fld (pv 0) rfl) (pv 4) (fun _ _ => rfl)) rfl))))
      (pss_cons (ps_fld (pv 0) (pv 3) rfl)
      (pss_one (ps_fldaug (pv 0) (pv 2) in_add))))))), ?_⟩
    refine ⟨_, rfl, _, rfl, p, C, dx, _, _, rfl, h1, T.cl, T.n_many, fz_many _ _ _, _, _, rfl, rfl, i, z.many + 1, rfl, hi, Sm.of (by omega) (by omega), fun yes => ?_, fun no => k2 (fun y => no (by omega))⟩
    have yes' : 0 ≤ i ∧ i ≤ z.many := by omega
    have bad : ¬ goodP n → tJs [tFmt (tVar 2), tC (.str " is no count from 1 to "), tFmt (tC (.int 1000))] Str.empty (start ["self", "number", "many", "moved", "old"] [.ref p, .int i, .int n]) H fun _ H1 => E (.ref cM) none H1 := fun no => by
      have l1 := hn.len
      refine ⟨_, rfl, .inr ⟨_, rfl, hn.log, _, rfl, ?_, _, rfl, ?_, .inr ⟨_, rfl, by decide, _, rfl, ?_, k3 yes' no⟩⟩⟩
      · exact small (by rw [PySem.Str.length_append]; show 0 + _ ≤ 1000; omega)
      · exact small (by rw [PySem.Str.length_append, PySem.Str.length_append]; show 0 + _ + 23 ≤ 1000; omega)
      · exact small (by rw [PySem.Str.length_append, PySem.Str.length_append, PySem.Str.length_append]; show 0 + _ + 23 + 4 ≤ 1000; omega)
    refine ⟨fun σ H' => σ = start ["self", "number", "many", "moved", "old"] [.ref p, .int i, .int n] ∧ H = H' ∧ goodP n, ?_, ?_⟩
    · refine ⟨_, rfl, _, _, rfl, rfl, _, rfl, ?_⟩
      refine ite2 (fun c => ?_) (fun c => ?_)
      · have c' : n < 1 := of_decide_eq_true c
        exact ifT rfl (bad (fun y => by have := y.1; omega))
      · have c' : ¬ n < 1 := fun q => c (decide_eq_true q)
        refine ⟨_, rfl, _, _, rfl, rfl, _, rfl, ?_⟩
        refine ite2 (fun c2 => ?_) (fun c2 => ?_)
        · have c2' : (1000 : Int) < n := of_decide_eq_true c2
          exact bad (fun y => by have := y.2; omega)
        · have c2' : ¬ (1000 : Int) < n := fun q => c2 (decide_eq_true q)
          exact ⟨rfl, rfl, by omega, by omega⟩
    rintro σ H' ⟨rfl, rfl, good⟩
    refine fun m nm => ?_
    have s1 := same_new nm (.dK [])
    have e1 : upd H m (.dK []) m = some (.dK []) := upd_same
    generalize upd H m (.dK []) = H1 at s1 e1 ⊢
    have dm : d ≠ m := ne_of_none h2 nm
    have pm : p ≠ m := ne_of_none h1 nm
    refine ⟨d, _, s1 _ _ h2, trivial, fun od => ?_⟩
    obtain ⟨HL, eL⟩ : ∃ HL, HL = upd H1 d (.frz od (.dK kvs)) := ⟨_, rfl⟩
    have hLd : HL d = some (.frz od (.dK kvs)) := by rw [eL]; exact upd_same
    have hLp : HL p = some (.ins C dx (fldZ z.many z.common d)) := by rw [eL, upd_ne npd]; exact s1 _ _ h1
    have hLm : HL m = some (.dK []) := by rw [eL, upd_ne dm.symm]; exact e1
    have tsL : TupSame H HL := (TupSame.of s1).trans (by rw [eL]; exact TupSame.upd (s1 _ _ h2) (fun xs e => by cases e) _)
    rw [← eL]
    refine ⟨_, rfl, p, C, dx, _, _, rfl, hLp, T.cl, T.n_odd, fz_odd _ _ _, d, od, rfl, .inl ⟨kvs, hLd, ?_⟩⟩
    refine for_it walk_keys (fun j σ H' => Frm m HL H' ∧ (∃ x4, σ = [some (.ref p), some (.int i), some (.int n), some (.ref m), x4]) ∧ ∃ kws, H' m = some (.dK kws) ∧ OddAt H' kws (movO (fPut i n) (z.odd.take j))) ⟨fun b o _ q => q, ⟨_, rfl⟩, [], hLm, .nil⟩ (fun j σ H' _ q => q.1 _ _ dm hLd) ?_ ?_
    · rintro j y σ H2 _ hj ⟨f2, ⟨x4, rfl⟩, kws, hm, om⟩ ⟨eH, kk, vv, ekv, rfl⟩
      rw [eH]
      obtain ⟨e, ee, eq1⟩ := h3.at_ ekv
      subst eq1
      have hin := ok e (List.mem_of_getElem? ee)
      obtain ⟨t, x, v1, v2, v3⟩ : ∃ t x, valV kvs (Sum.inl e.1) = some (.ref t) ∧ look z.odd e.1 = some x ∧ H t = some (.tup [.int x.1, .bl x.2]) := by
        have lk := look_of nd (List.mem_of_getElem? ee)
        rcases h3.look e.1 with ⟨_, b2⟩ | r
        · rw [lk] at b2; cases b2
        · exact r
      rw [look_of nd (List.mem_of_getElem? ee)] at v2
      have vx := Option.some.inj v2
      subst vx
      have tm : ∀ q xs, HL q = some (.tup xs) → q ≠ m := fun q xs r => ne_of r hLm (by intro z; cases z)
      have ht2 : H2 t = some (.tup [.int e.2.1, .bl e.2.2]) := f2 _ _ (tm _ _ (tsL _ _ v3)) (tsL _ _ v3)
      have kl : kws.length < sizeLine := Nat.lt_of_le_of_lt (by rw [om.len]; exact Nat.le_trans (mov_len _ _) (Nat.le_trans (List.length_take_le' _ _) le)) (show 60 < sizeLine by decide)
      have put : ∀ k', fPut i n e.1 = some k' → Frm m HL (upd H2 m (.dK (putK kws (Sum.inl k') (.ref t)))) ∧ ∃ kws', upd H2 m (.dK (putK kws (Sum.inl k') (.ref t))) m = some (.dK kws') ∧ OddAt (upd H2 m (.dK (putK kws (Sum.inl k') (.ref t)))) kws' (movO (fPut i n) (z.odd.take (j + 1))) := fun k' hk => by
        refine ⟨f2.trans (Frm.upd _), _, upd_same, ?_⟩
        have ts : TupSame H2 (upd H2 m (.dK (putK kws (Sum.inl k') (.ref t)))) := TupSame.upd hm (fun xs e => by cases e) _
        exact (om.mono ts).mov (inj_put (by have := good.1; omega)) nd ee hk (ts _ _ ht2)
      refine ⟨_, rfl, p, C, dx, _, _, rfl, f2 _ _ pm hLp, T.cl, T.n_odd, fz_odd _ _ _, _, rfl, d, _, rfl, .inl ⟨kvs, Sum.inl e.1, .inr ⟨od, f2 _ _ dm hLd⟩, rfl, v1.symm⟩, ?_⟩
      refine ⟨_, rfl, _, rfl, _, rfl, _, _, rfl, rfl, _, rfl, ?_⟩
      refine ite2 (fun c => ?_) (fun c => ?_)
      · have c' : e.1 < i := of_decide_eq_true c
        obtain ⟨g1, kws', g2, g3⟩ := put e.1 (by unfold fPut; rw [if_pos c'])
        exact ⟨_, rfl, m, _, rfl, .inl ⟨kws, Sum.inl e.1, hm, rfl, kl, rfl⟩, g1, ⟨_, rfl⟩, kws', g2, g3⟩
      · have c' : ¬ e.1 < i := fun q => c (decide_eq_true q)
        obtain ⟨g1, kws', g2, g3⟩ := put (e.1 + n) (by unfold fPut; rw [if_neg c'])
        exact ⟨_, rfl, _, rfl, _, _, rfl, rfl, m, _, rfl, .inl ⟨kws, Sum.inl (e.1 + n), hm, rfl, kl, rfl⟩, g1, ⟨_, rfl⟩, kws', g2, g3⟩
    rintro σ H2 ⟨f2, ⟨x4, rfl⟩, kws, hm, om⟩
    rw [h3.len, List.take_length] at om
    have h2d := f2 _ _ dm hLd
    refine ⟨h2d, ?_⟩
    have ts3 : TupSame H2 (upd H2 d (.dK kvs)) := TupSame.upd h2d (fun xs e => by cases e) _
    have m3 : upd H2 d (.dK kvs) m = some (.dK kws) := by rw [upd_ne dm.symm]; exact hm
    have p3 : upd H2 d (.dK kvs) p = some (.ins C dx (fldZ z.many z.common d)) := by rw [upd_ne npd]; exact f2 _ _ pm hLp
    have f3 : Frm p H (upd H2 d (.dK kvs)) := fun b o nb q => by
      by_cases hb : b = d
      · subst hb
        rw [h2] at q
        cases q
        exact upd_same
      · rw [upd_ne hb]
        refine f2 _ _ (ne_of_none q nm) ?_
        rw [eL, upd_ne hb]
        exact s1 _ _ q
    have o3 := om.mono ts3
    generalize upd H2 d (.dK kvs) = H3 at m3 p3 f3 o3 ⊢
    refine ⟨_, rfl, _, rfl, p, C, dx, _, rfl, p3, T.cl, T.n_odd, fz_few _ _ _, ?_⟩
    rw [fz_put_odd]
    refine ⟨_, rfl, p, C, dx, _, _, rfl, upd_same, T.cl, T.n_many, fz_many _ _ _, _, rfl, _, _, rfl, rfl, dx, _, upd_same, fz_few _ _ _, ?_⟩
    rw [fz_put_many, upd_upd]
    have tsp : TupSame H3 (upd H3 p (.ins C dx (fldZ (z.many + n) z.common m))) := TupSame.upd p3 (fun xs e => by cases e) _
    exact k1 yes' good m _ nm (f3.trans (Frm.upd _)) ⟨dx, kws, upd_same, (by rw [upd_ne pm.symm]; exact m3), o3.mono tsp, put_wf W yes' good.1 (by have := good.2; omega)⟩
abbrev s_Sizes_cut : Stmt := inClass (top 17) 18
theorem sc_Sizes_cut : FnScope ["self", "number", "many", "behind", "moved", "old"] ["self", "number", "many"] (defScope s_Sizes_cut) := ⟨rfl, rfl, rfl, by decide +kernel, rfl, by decide +kernel, by decide +kernel⟩
theorem ok_cut (F : Fun K "cut" "Sizes.cut" s_Sizes_cut f fd) (T : Tx K mg C cN cP cM cS cF tG tM tQ tR) (D_check_number : Dn P w K mg base (L2.CX P w) 1 "check_number" ["number", "count"] (spNum cN)) : FnOk P w K mg base (L2.CX P w) 2 f fd ["self", "number", "many"] (spCut C cN cM) := by
  refine F.okX sc_Sizes_cut (fun vs H Q E h => ?_) (fun cdv A outer s H vs Q E hr h => ?_)
  · obtain ⟨p, d, z, i, n, rfl, _⟩ := h
    rfl
  · obtain ⟨p, d, z, i, n, rfl, S, hi, hn, k1, k2, k3⟩ := h
    have hu := hu_of hr
    obtain ⟨dx, kvs, h1, h2, h3, W⟩ := id S
    have W' := W
    obtain ⟨m0, m1, c0, c1, nd, le, ok⟩ := W'
    have npd : p ≠ d := ne_of h1 h2 (by intro e; cases e)
    refine ⟨_, (pss_cons (ps_expr (pe_callD D_check_number (hr.mono (by omega)) (by rfl) (passes_call (takes_of rfl rfl rfl rfl) (fun _ _ _ _ h => h)) (pa_cons (pv 1) (pa_cons (pe_fld (pv 0) rfl) pa_nil))))
      (pss_cons (ps_set (i := 3) sc_Sizes_cut.nd rfl (.inl rfl) (pe_op op_add (pv 1) (pv 2)))
      (C8.pss_cut (ps_if (PW.pt (pw_or (pt_cmpR op_lt (pv 2) pe_int (nomark _)) (pw_or (pt_cmpR op_gt (pv 3) (pe_fld (pv 0) rfl) (nomark _)) (pw_or1 (pt_cmpR op_eq (pv 2) (pe_fld (pv 0) rfl) (nomark _)))))) (pss_one (ps_raise rfl (takes_of rfl rfl rfl rfl) (SkE.pmk_own1 PySem.F.excBase_ValueError T.x_BadMany.ex T.x_BadMany.g T.x_BadMany.kp (raises_own T.x_BadMany.b T.x_BadMany.t) (by rfl) (pe_joined (.cons (pe_fmt (pv 2)) (.cons pe_str (.cons (pe_fmt (pv 1)) (.cons pe_str (.cons (pe_fmt (pe_fld (pv 0) rfl)) .nil))))))))) pss_nil)
      (pss_cons (ps_set (i := 4) sc_Sizes_cut.nd rfl (.inl rfl) pe_dnewK)
      (pss_cons (ps_lock (ps_for (passes_of rfl) rfl (pi_keys (pe_fld (pv 0) rfl)) (pg_name (i := 5) sc_Sizes_cut.nd rfl (.inl rfl))
        (pss_one (ps_if (pt_cmpR op_lt (pv 5) (pv 1) (nomark _)) (pss_one (ps_dput hu (pv 4) (pv 5) (pe_dget hu (pe_fld (pv 0) rfl) (pv 5) (fun _ _ => rfl)) rfl)) (pss_one (ps_if (pt_cmpR op_ge (pv 5) (pv 3) (nomark _)) (pss_one (ps_dput hu (pv 4) (pe_op op_sub (pv 5) (pv 2)) (pe_dget hu (pe_fld (pv 0) rfl) (pv 5) (fun _ _ => rfl)) rfl)) pss_nil))))))
      (pss_cons (ps_fld (pv 0) (pv 4) rfl)
      (pss_one (ps_fldaug (pv 0) (pv 2) in_sub)))))))), ?_⟩
    have sm : Sm z.many := Sm.of (by omega) (by omega)
    refine ⟨_, rfl, _, rfl, p, C, dx, _, _, rfl, h1, T.cl, T.n_many, fz_many _ _ _, i, z.many, rfl, hi, sm, fun yes => ?_, k2⟩
    refine ⟨_, rfl, _, rfl, _, _, rfl, rfl, ?_⟩
    have bad : ¬ goodC z i n → tJs [tFmt (tVar 2), tC (.str " things can't be cut out at "), tFmt (tVar 1), tC (.str " of "), tFmt (tFld K (tVar 0) "many")] Str.empty (List.set (start ["self", "number", "many", "behind", "moved", "old"] [.ref p, .int i, .int n]) 3 (some (.int (i + n)))) H fun _ H1 => E (.ref cM) none H1 := fun no => by
      have l1 := hn.len
      have l2 := hi.len
      have l3 := sm.len
      refine ⟨_, rfl, .inr ⟨_, rfl, hn.log, _, rfl, ?_, _, rfl, ?_, _, rfl, .inr ⟨_, rfl, hi.log, _, rfl, ?_, _, rfl, ?_, _, rfl, p, C, dx, _, _, rfl, h1, T.cl, T.n_many, fz_many _ _ _, .inr ⟨_, rfl, sm.log, _, rfl, ?_, k3 yes no⟩⟩⟩⟩
      · exact small (by rw [PySem.Str.length_append]; show 0 + _ ≤ 1000; omega)
      · exact small (by rw [PySem.Str.length_append, PySem.Str.length_append]; show 0 + _ + 28 ≤ 1000; omega)
      · exact small (by rw [PySem.Str.length_append, PySem.Str.length_append, PySem.Str.length_append]; show 0 + _ + 28 + _ ≤ 1000; omega)
      · exact small (by rw [PySem.Str.length_append, PySem.Str.length_append, PySem.Str.length_append, PySem.Str.length_append]; show 0 + _ + 28 + _ + 4 ≤ 1000; omega)
      · exact small (by rw [PySem.Str.length_append, PySem.Str.length_append, PySem.Str.length_append, PySem.Str.length_append, PySem.Str.length_append]; show 0 + _ + 28 + _ + 4 + _ ≤ 1000; omega)
    refine ⟨fun σ H' => σ = List.set (start ["self", "number", "many", "behind", "moved", "old"] [.ref p, .int i, .int n]) 3 (some (.int (i + n))) ∧ H = H' ∧ goodC z i n, ?_, ?_⟩
    · refine ⟨_, rfl, _, _, rfl, rfl, _, rfl, ?_⟩
      refine ite2 (fun c => ?_) (fun c => ?_)
      · have c' : n < 1 := of_decide_eq_true c
        exact ifT rfl (bad (fun y => by have := y.1; omega))
      · have c' : ¬ n < 1 := fun q => c (decide_eq_true q)
        refine ⟨_, rfl, _, rfl, p, C, dx, _, _, rfl, h1, T.cl, T.n_many, fz_many _ _ _, _, _, rfl, rfl, _, rfl, ?_⟩
        refine ite2 (fun c2 => ?_) (fun c2 => ?_)
        · have c2' : z.many < i + n := of_decide_eq_true c2
          exact ifT rfl (bad (fun y => by have := y.2.1; omega))
        · have c2' : ¬ z.many < i + n := fun q => c2 (decide_eq_true q)
          refine ⟨_, rfl, _, rfl, p, C, dx, _, _, rfl, h1, T.cl, T.n_many, fz_many _ _ _, rfl, _, rfl, ?_⟩
          refine ite2 (fun c3 => ?_) (fun c3 => ?_)
          · have c3' : n = z.many := by have := of_decide_eq_true c3; injection this
            exact bad (fun y => y.2.2 c3')
          · have c3' : ¬ n = z.many := fun q => c3 (decide_eq_true (congrArg V.int q))
            exact ⟨rfl, rfl, by omega, by omega, c3'⟩
    rintro σ H' ⟨rfl, rfl, good⟩
    refine fun m nm => ?_
    have s1 := same_new nm (.dK [])
    have e1 : upd H m (.dK []) m = some (.dK []) := upd_same
    generalize upd H m (.dK []) = H1 at s1 e1 ⊢
    have dm : d ≠ m := ne_of_none h2 nm
    have pm : p ≠ m := ne_of_none h1 nm
    refine ⟨d, _, s1 _ _ h2, trivial, fun od => ?_⟩
    obtain ⟨HL, eL⟩ : ∃ HL, HL = upd H1 d (.frz od (.dK kvs)) := ⟨_, rfl⟩
    have hLd : HL d = some (.frz od (.dK kvs)) := by rw [eL]; exact upd_same
    have hLp : HL p = some (.ins C dx (fldZ z.many z.common d)) := by rw [eL, upd_ne npd]; exact s1 _ _ h1
    have hLm : HL m = some (.dK []) := by rw [eL, upd_ne dm.symm]; exact e1
    have tsL : TupSame H HL := (TupSame.of s1).trans (by rw [eL]; exact TupSame.upd (s1 _ _ h2) (fun xs e => by cases e) _)
    rw [← eL]
    refine ⟨_, rfl, p, C, dx, _, _, rfl, hLp, T.cl, T.n_odd, fz_odd _ _ _, d, od, rfl, .inl ⟨kvs, hLd, ?_⟩⟩
    refine for_it walk_keys (fun j σ H' => Frm m HL H' ∧ (∃ x4, σ = [some (.ref p), some (.int i), some (.int n), some (.int (i + n)), some (.ref m), x4]) ∧ ∃ kws, H' m = some (.dK kws) ∧ OddAt H' kws (movO (fCut i n) (z.odd.take j))) ⟨fun b o _ q => q, ⟨_, rfl⟩, [], hLm, .nil⟩ (fun j σ H' _ q => q.1 _ _ dm hLd) ?_ ?_
    · rintro j y σ H2 _ hj ⟨f2, ⟨x4, rfl⟩, kws, hm, om⟩ ⟨eH, kk, vv, ekv, rfl⟩
      rw [eH]
      obtain ⟨e, ee, eq1⟩ := h3.at_ ekv
      subst eq1
      have hin := ok e (List.mem_of_getElem? ee)
      obtain ⟨t, x, v1, v2, v3⟩ : ∃ t x, valV kvs (Sum.inl e.1) = some (.ref t) ∧ look z.odd e.1 = some x ∧ H t = some (.tup [.int x.1, .bl x.2]) := by
        have lk := look_of nd (List.mem_of_getElem? ee)
        rcases h3.look e.1 with ⟨_, b2⟩ | r
        · rw [lk] at b2; cases b2
        · exact r
      rw [look_of nd (List.mem_of_getElem? ee)] at v2
      have vx := Option.some.inj v2
      subst vx
      have tm : ∀ q xs, HL q = some (.tup xs) → q ≠ m := fun q xs r => ne_of r hLm (by intro z; cases z)
      have ht2 : H2 t = some (.tup [.int e.2.1, .bl e.2.2]) := f2 _ _ (tm _ _ (tsL _ _ v3)) (tsL _ _ v3)
      have kl : kws.length < sizeLine := Nat.lt_of_le_of_lt (by rw [om.len]; exact Nat.le_trans (mov_len _ _) (Nat.le_trans (List.length_take_le' _ _) le)) (show 60 < sizeLine by decide)
      have put : ∀ k', fCut i n e.1 = some k' → Frm m HL (upd H2 m (.dK (putK kws (Sum.inl k') (.ref t)))) ∧ ∃ kws', upd H2 m (.dK (putK kws (Sum.inl k') (.ref t))) m = some (.dK kws') ∧ OddAt (upd H2 m (.dK (putK kws (Sum.inl k') (.ref t)))) kws' (movO (fCut i n) (z.odd.take (j + 1))) := fun k' hk => by
        refine ⟨f2.trans (Frm.upd _), _, upd_same, ?_⟩
        have ts : TupSame H2 (upd H2 m (.dK (putK kws (Sum.inl k') (.ref t)))) := TupSame.upd hm (fun xs e => by cases e) _
        exact (om.mono ts).mov (inj_cut (by have := good.1; omega)) nd ee hk (ts _ _ ht2)
      refine ⟨_, rfl, _, rfl, _, _, rfl, rfl, _, rfl, ?_⟩
      refine ite2 (fun c => ?_) (fun c => ?_)
      · have c' : e.1 < i := of_decide_eq_true c
        obtain ⟨g1, kws', g2, g3⟩ := put e.1 (by unfold fCut; rw [if_pos c'])
        refine ⟨_, rfl, p, C, dx, _, _, rfl, f2 _ _ pm hLp, T.cl, T.n_odd, fz_odd _ _ _, _, rfl, d, _, rfl, .inl ⟨kvs, Sum.inl e.1, .inr ⟨od, f2 _ _ dm hLd⟩, rfl, v1.symm⟩, ?_⟩
        exact ⟨_, rfl, _, rfl, m, _, rfl, .inl ⟨kws, Sum.inl e.1, hm, rfl, kl, rfl⟩, g1, ⟨_, rfl⟩, kws', g2, g3⟩
      · have c' : ¬ e.1 < i := fun q => c (decide_eq_true q)
        refine ⟨_, rfl, _, rfl, _, _, rfl, rfl, _, rfl, ?_⟩
        refine ite2 (fun c2 => ?_) (fun c2 => ?_)
        · have c2' : i + n ≤ e.1 := of_decide_eq_true c2
          obtain ⟨g1, kws', g2, g3⟩ := put (e.1 - n) (by unfold fCut; rw [if_neg c', if_pos c2'])
          refine ⟨_, rfl, p, C, dx, _, _, rfl, f2 _ _ pm hLp, T.cl, T.n_odd, fz_odd _ _ _, _, rfl, d, _, rfl, .inl ⟨kvs, Sum.inl e.1, .inr ⟨od, f2 _ _ dm hLd⟩, rfl, v1.symm⟩, ?_⟩
          exact ⟨_, rfl, _, rfl, _, rfl, _, _, rfl, rfl, m, _, rfl, .inl ⟨kws, Sum.inl (e.1 - n), hm, rfl, kl, rfl⟩, g1, ⟨_, rfl⟩, kws', g2, g3⟩
        · have c2' : ¬ i + n ≤ e.1 := fun q => c2 (decide_eq_true q)
          have no : fCut i n e.1 = none := by unfold fCut; rw [if_neg c', if_neg c2']
          refine ⟨f2, ⟨_, rfl⟩, kws, hm, ?_⟩
          rw [mov_snoc ee, no, List.append_nil]
          exact om
    rintro σ H2 ⟨f2, ⟨x4, rfl⟩, kws, hm, om⟩
    rw [h3.len, List.take_length] at om
    have h2d := f2 _ _ dm hLd
    refine ⟨h2d, ?_⟩
    have ts3 : TupSame H2 (upd H2 d (.dK kvs)) := TupSame.upd h2d (fun xs e => by cases e) _
    have m3 : upd H2 d (.dK kvs) m = some (.dK kws) := by rw [upd_ne dm.symm]; exact hm
    have p3 : upd H2 d (.dK kvs) p = some (.ins C dx (fldZ z.many z.common d)) := by rw [upd_ne npd]; exact f2 _ _ pm hLp
    have f3 : Frm p H (upd H2 d (.dK kvs)) := fun b o nb q => by
      by_cases hb : b = d
      · subst hb
        rw [h2] at q
        cases q
        exact upd_same
      · rw [upd_ne hb]
        refine f2 _ _ (ne_of_none q nm) ?_
        rw [eL, upd_ne hb]
        exact s1 _ _ q
    have o3 := om.mono ts3
    generalize upd H2 d (.dK kvs) = H3 at m3 p3 f3 o3 ⊢
    refine ⟨_, rfl, _, rfl, p, C, dx, _, rfl, p3, T.cl, T.n_odd, fz_few _ _ _, ?_⟩
    rw [fz_put_odd]
    refine ⟨_, rfl, p, C, dx, _, _, rfl, upd_same, T.cl, T.n_many, fz_many _ _ _, _, rfl, _, _, rfl, rfl, dx, _, upd_same, fz_few _ _ _, ?_⟩
    rw [fz_put_many, upd_upd]
    have tsp : TupSame H3 (upd H3 p (.ins C dx (fldZ (z.many - n) z.common m))) := TupSame.upd p3 (fun xs e => by cases e) _
    exact k1 yes good m _ nm (f3.trans (Frm.upd _)) ⟨dx, kws, upd_same, (by rw [upd_ne pm.symm]; exact m3), o3.mono tsp, cut_wf W yes.1 good.1 good.2.1 good.2.2⟩
abbrev s_z_odd : Stmt := top 29
theorem sc_z_odd : FnScope ["_law_z_here", "_law_k"] ["_law_z_here"] (defScope s_z_odd) := ⟨rfl, rfl, rfl, by decide +kernel, rfl, by decide +kernel, by decide +kernel⟩
theorem ok_z_odd (F : Fun K "_law_z_odd" "_law_z_odd" s_z_odd f fd) (T : Tx K mg C cN cP cM cS cF tG tM tQ tR)  : FnOk P w K mg base CX0 1 f fd ["_law_z_here"] spZodd := by
  refine F.ok sc_z_odd (fun vs H Q E h => ?_) (fun cdv A outer s H vs Q E hr h => ?_)
  · obtain ⟨a, o, g, z, rfl, _⟩ := h
    rfl
  · obtain ⟨a, o, g, z, rfl, S, k1⟩ := h
    have hu := hu_of hr
    refine ⟨_, (pss_one (ps_ret (pe_callB cr_sorted (by rfl) T.no_sorted (by decide +kernel) (pa_cons (pe_op op_cat (pe_callTy (call_listD rfl) (by rfl) T.no_list (by decide +kernel) (pa_cons (pe_dget hu (pv 0) pe_str (fun _ _ => rfl)) pa_nil)) (pe_lock (pe_lc (own := [("_law_k", 1)]) (g := gName 1) rfl sc_z_odd.nd (pi_keys (pe_dget hu (pv 0) pe_str (fun _ _ => rfl))) (blkOk_by (N := ["_law_z_here", "_law_k"]) (sc := defScope s_z_odd) (by decide +kernel)) (fun _ _ _ _ _ => (pg_name (i := 1) sc_z_odd.nd rfl (Or.inl rfl))) (fun _ _ _ _ _ => (pts_one (pt_cmp (pc_dnotin hu (pv 1) (pe_dget hu (pv 0) pe_str (fun _ _ => rfl)))))) (fun _ _ _ _ _ => (pv 1))))) pa_nil)))), ?_⟩
    refine ⟨_, rfl, _, _, rfl, dg_own S.ha, o, _, rfl, .inl S.ho, fun l1 n1 => ?_⟩
    have s1 := same_new n1 (.lst ((ownK z.own).map fun kv => kV kv.1))
    have e1 : ((ownK z.own).map fun kv => kV kv.1) = (z.own.map (·.1)).map V.int := by
      unfold ownK
      simp [kV]
    rw [e1] at s1 ⊢
    have S1 := S.same s1
    have hl1 : upd H l1 (.lst ((z.own.map (·.1)).map V.int)) l1 = some (.lst ((z.own.map (·.1)).map V.int)) := upd_same
    generalize upd H l1 (.lst ((z.own.map (·.1)).map V.int)) = H1 at s1 S1 hl1 ⊢
    refine ⟨g, _, S1.hg, trivial, fun od => ?_⟩
    obtain ⟨HL, eL⟩ : ∃ HL, HL = upd H1 g (.frz od (.dK (goneK z.gone))) := ⟨_, rfl⟩
    have hLg : HL g = some (.frz od (.dK (goneK z.gone))) := by rw [eL]; exact upd_same
    have hLa : HL a = some (.dK (zL z.many z.common o g)) := by rw [eL, upd_ne S.ag]; exact S1.ha
    have hLo : HL o = some (.dK (ownK z.own)) := by rw [eL, upd_ne S.og]; exact S1.ho
    rw [← eL]
    refine ⟨_, rfl, _, _, rfl, dg_gone hLa, g, od, rfl, .inl ⟨_, hLg, fun D hD => ?_⟩⟩
    refine lc_it walk_keys (fun j H2 => Same HL H2 ∧ H2 D = some (.lst (((z.gone.take j).filter fun k => !(zown z.own k).isSome).map V.int))) ⟨same_new hD _, upd_same⟩ (fun j H2 _ q => q.1 _ _ hLg) ?_ ?_
    · rintro j x H2 H2' hj ⟨s2, e2⟩ ⟨rfl, kk, vv, ekv, rfl⟩
      obtain ⟨e, ee, eq1⟩ : ∃ e, z.gone[j]? = some e ∧ kk = Sum.inl e := by
        unfold goneK at ekv
        rw [List.getElem?_map] at ekv
        cases hj' : z.gone[j]? with
        | none => rw [hj'] at ekv; cases ekv
        | some e =>
          rw [hj'] at ekv
          have := Option.some.inj ekv
          injection this with q1 q2
          exact ⟨e, rfl, q1.symm⟩
      subst eq1
      refine ⟨rfl, ?_⟩
      refine ⟨_, rfl, _, rfl, _, _, rfl, dg_own (s2 _ _ hLa), o, _, rfl, dg_own1 (s2 _ _ hLo) e, _, rfl, ?_⟩
      rw [Option.isSome_map]
      refine ite2 (fun q => ?_) (fun q => ?_)
      · refine ⟨_, rfl, _, e2, ?_, ?_, ?_⟩
        · refine Nat.lt_of_le_of_lt ?_ (show 1000 < sizeLine by decide)
          rw [List.length_map]
          exact Nat.le_trans (List.length_filter_le _ _) (Nat.le_trans (List.length_take_le' _ _) S.ok.l2)
        · intro b' o' z'
          rw [upd_ne (ne_of_none z' hD)]
          exact s2 _ _ z'
        · rw [upd_same, take_filter1 _ _ ee, if_pos q, List.map_append]
          rfl
      · refine ⟨s2, ?_⟩
        rw [take_filter1 _ _ ee, if_neg q, List.append_nil]
        exact e2
    rintro H2 ⟨s2, e2⟩
    have eLen : (goneK z.gone).length = z.gone.length := by unfold goneK; rw [List.length_map]
    rw [eLen, List.take_length] at e2
    have nDg : D ≠ g := ne_of e2 (s2 _ _ hLg) (by intro e; cases e)
    have sF : Same H1 (upd H2 g (.dK (goneK z.gone))) := by
      intro b o' q
      by_cases hb : b = g
      · subst hb
        rw [S1.hg] at q
        cases q
        exact upd_same
      · rw [upd_ne hb]
        refine s2 _ _ ?_
        rw [eL, upd_ne hb]
        exact q
    have le := S.ok.le
    unfold zkeys at le
    rw [List.length_append] at le
    refine ⟨s2 _ _ hLg, _, _, _, _, rfl, rfl, sF _ _ hl1, (by rw [upd_ne nDg]; exact e2), small (by simp only [List.length_map] at le ⊢; omega), fun p hp => ?_⟩
    have s5 := same_new hp (.lst ((z.own.map (·.1)).map V.int ++ (z.gone.filter fun k => !(zown z.own k).isSome).map V.int))
    refine ⟨p, zkeys z, rfl, SqL.of (by rw [upd_same]; unfold zkeys; rw [List.map_append]), S.ok.le, fun ys q perm pw hq => ?_⟩
    exact k1 ys q _ perm pw (s1.trans (sF.trans (s5.trans (same_new hq _)))) upd_same
abbrev s_z_size : Stmt := top 30
theorem sc_z_size : FnScope ["_law_z_here", "_law_k"] ["_law_z_here", "_law_k"] (defScope s_z_size) := ⟨rfl, rfl, rfl, by decide +kernel, rfl, by decide +kernel, by decide +kernel⟩
theorem ok_z_size (F : Fun K "_law_z_size" "_law_z_size" s_z_size f fd) (T : Tx K mg C cN cP cM cS cF tG tM tQ tR)  : FnOk P w K mg base CX0 1 f fd ["_law_z_here", "_law_k"] spZsize := by
  refine F.ok sc_z_size (fun vs H Q E h => ?_) (fun cdv A outer s H vs Q E hr h => ?_)
  · obtain ⟨a, o, g, z, k, rfl, _⟩ := h
    rfl
  · obtain ⟨a, o, g, z, k, rfl, S, q⟩ := h
    have hu := hu_of hr
    refine ⟨_, (pss_cons (ps_if (pt_cmp (pc_din hu (pv 1) (pe_dget hu (pv 0) pe_str (fun _ _ => rfl)))) (pss_one (ps_ret pe_int)) pss_nil)
      (pss_one (ps_ret (pe_dget2 hu (pe_dget hu (pv 0) pe_str (fun _ _ => rfl)) (pv 1) (pe_dget hu (pv 0) pe_str (fun _ _ => rfl)) ⟨rfl, rfl, rfl, rfl⟩)))), ?_⟩
    refine ⟨_, rfl, _, rfl, _, _, rfl, dg_gone S.ha, g, _, rfl, dg_gone1 S.hg k, _, rfl, ?_⟩
    rw [gone_some]
    unfold zsz at q
    refine ite2 (fun c => ?_) (fun c => ?_)
    · rw [if_pos (of_decide_eq_true c)] at q
      exact q
    · rw [if_neg (fun m => c (decide_eq_true m))] at q
      refine ⟨_, rfl, _, _, rfl, dg_own S.ha, o, rfl, .inl ⟨_, .inl S.ho⟩, _, rfl, _, rfl, _, _, rfl, dg_common S.ha, _, dg_own1 S.ho k, ?_⟩
      rw [opt_int]
      exact q
abbrev s_z_ahead : Stmt := top 31
theorem sc_z_ahead : FnScope ["_law_z_here", "_law_k", "_law_found", "_law_one"] ["_law_z_here", "_law_k"] (defScope s_z_ahead) := ⟨rfl, rfl, rfl, by decide +kernel, rfl, by decide +kernel, by decide +kernel⟩
theorem ok_z_ahead (F : Fun K "_law_z_ahead" "_law_z_ahead" s_z_ahead f fd) (T : Tx K mg C cN cP cM cS cF tG tM tQ tR) (D_z_odd : Dn P w K mg base CX0 1 "_law_z_odd" ["_law_z_here"] spZodd) (D_z_size : Dn P w K mg base CX0 1 "_law_z_size" ["_law_z_here", "_law_k"] spZsize) : FnOk P w K mg base CX0 2 f fd ["_law_z_here", "_law_k"] spZahead := by
  refine F.ok sc_z_ahead (fun vs H Q E h => ?_) (fun cdv A outer s H vs Q E hr h => ?_)
  · obtain ⟨a, o, g, z, k, rfl, _⟩ := h
    rfl
  · obtain ⟨a, o, g, z, k, rfl, S, k1⟩ := h
    have hu := hu_of hr
    have c0 := S.ok.c0
    have c1 := S.ok.c1
    refine ⟨_, (pss_cons (ps_set (i := 2) sc_z_ahead.nd rfl (.inl rfl) (pe_op op_mul (pv 1) (pe_dget hu (pv 0) pe_str (fun _ _ => rfl))))
      (pss_cons (ps_for PassesOwn.never rfl (pi_list (pe_callD D_z_odd (hr.mono (by omega)) (by rfl) pass0 (pa_cons (pv 0) pa_nil))) (pg_name (i := 3) sc_z_ahead.nd rfl (.inl rfl))
        (pss_one (ps_if (pt_cmpR op_lt (pv 3) (pv 1) (nomark _)) (pss_one (ps_set (i := 2) sc_z_ahead.nd rfl (.inl rfl) (pe_op op_sub (pe_op op_add (pv 2) (pe_callD D_z_size (hr.mono (by omega)) (by rfl) pass0 (pa_cons (pv 0) (pa_cons (pv 3) pa_nil)))) (pe_dget hu (pv 0) pe_str (fun _ _ => rfl))))) pss_nil)))
      (pss_one (ps_ret (pv 2))))), ?_⟩
    refine ⟨_, rfl, _, rfl, _, _, rfl, dg_common S.ha, _, _, rfl, rfl, .inr ⟨by omega, by omega⟩, ?_⟩
    refine ⟨_, rfl, a, o, g, z, rfl, S, fun ys l H1 perm pw s1 hl => ?_⟩
    refine ⟨l, rfl, ⟨_, SqL.of hl⟩, ?_⟩
    refine for_list (K := K) (a := l) (xs := ys.map V.int) (fun j σ H2 => Same H1 H2 ∧ ∃ v, σ = [some (.ref a), some (.int k), some (.int (k * z.common + (((ys.take j).filter fun q => decide (q < k)).map fun q => zsz z q - z.common).sum)), v]) ⟨Same.refl _, none, by simp; rfl⟩ (fun j σ H2 _ q => SqL.of (q.1 _ _ hl)) ?_ ?_
    · rintro j x σ H2 hx ⟨s2, v, rfl⟩
      rw [List.getElem?_map] at hx
      cases hj : ys[j]? with
      | none => rw [hj] at hx; cases hx
      | some y =>
        rw [hj] at hx
        have hy' : V.int y = x := Option.some.inj hx
        subst hy'
        refine ⟨_, rfl, _, rfl, _, _, rfl, rfl, _, rfl, ?_⟩
        refine ite2 (fun q => ?_) (fun q => ?_)
        · have S2 := (S.same s1).same s2
          refine ⟨_, rfl, _, rfl, _, rfl, a, o, g, z, y, rfl, S2, ?_⟩
          refine ⟨_, _, rfl, rfl, _, rfl, _, _, rfl, dg_common S2.ha, _, _, rfl, rfl, s2, some (.int y), ?_⟩
          rw [take_filter1 _ _ hj, if_pos q, List.map_append, List.sum_append]
          simp only [List.map_cons, List.map_nil, List.sum_cons, List.sum_nil]
          refine congrArg (fun q => [some (V.ref a), some (V.int k), some (V.int q), some (V.int y)]) ?_
          omega
        · refine ⟨s2, some (.int y), ?_⟩
          rw [take_filter1 _ _ hj, if_neg q, List.append_nil]
          rfl
    rintro σ H2 ⟨s2, v, rfl⟩
    rw [List.length_map, List.take_length]
    refine ⟨_, rfl, ?_⟩
    have := k1 H2 (s1.trans s2)
    unfold zah at this
    rw [perm_sum ((perm.filter _).map _)]
    exact this
abbrev s_z_stands : Stmt := top 33
theorem sc_z_stands : FnScope ["_law_sizes", "_law_z_here", "_law_some", "_law_k", "_law_rows", "_law_due"] ["_law_sizes", "_law_z_here", "_law_some"] (defScope s_z_stands) := ⟨rfl, rfl, rfl, by decide +kernel, rfl, by decide +kernel, by decide +kernel⟩
theorem ok_z_stands (F : Fun K "_law_z_stands" "_law_z_stands" s_z_stands f fd) (T : Tx K mg C cN cP cM cS cF tG tM tQ tR) (D_z_odd : Dn P w K mg base CX0 1 "_law_z_odd" ["_law_z_here"] spZodd) (D_z_size : Dn P w K mg base CX0 1 "_law_z_size" ["_law_z_here", "_law_k"] spZsize) (D_z_ahead : Dn P w K mg base CX0 2 "_law_z_ahead" ["_law_z_here", "_law_k"] spZahead) (D_same : Dn P w K mg base CX0 4 "_law_same" ["_law_found", "_law_due"] (spSame K 4)) (M_size : Mn P w K mg base (L2.CX P w) 3 C "size" ["self", "number"] (spSize C cN)) (M_own : Mn P w K mg base (L2.CX P w) 3 C "own" ["self", "number"] (spOwn C cN)) (M_hidden : Mn P w K mg base (L2.CX P w) 3 C "hidden" ["self", "number"] (spHid C cN)) (M_ahead : Mn P w K mg base (L2.CX P w) 4 C "ahead" ["self", "number"] (spAhead C cN)) (M_total : Mn P w K mg base CX0 5 C "total" ["self"] (spTotal C)) (M_exceptions : Mn P w K mg base CX0 4 C "exceptions" ["self"] (spExc K C)) (M_repr : Mn P w K mg base CX0 1 C "__repr__" ["self"] (spRepr C)) : FnOk P w K mg base CX0 6 f fd ["_law_sizes", "_law_z_here", "_law_some"] (spZst K C) := by
  refine F.ok sc_z_stands (fun vs H Q E h => ?_) (fun cdv A outer s H vs Q E hr h => ?_)
  · obtain ⟨p, d, a, o, g, l, sz, z, ns, rfl, _⟩ := h
    rfl
  · obtain ⟨p, d, a, o, g, l, sz, z, ns, rfl, S, Z, R, hl, hln, hns, k1⟩ := h
    have hu := hu_of hr
    refine ⟨_, (pss_cons (ps_setLc (i := 4) (own := [("_law_k", 3)]) (g := gName 3) rfl sc_z_stands.nd rfl rfl (sw_true rfl rfl rfl (by decide +kernel)) (pi_list (pe_callD D_z_odd (hr.mono (by omega)) (by rfl) pass0 (pa_cons (pv 1) pa_nil))) (blkOk_by (N := ["_law_sizes", "_law_z_here", "_law_some", "_law_k", "_law_rows", "_law_due"]) (sc := defScope s_z_stands) (by decide +kernel)) (fun _ _ _ _ _ => (pg_name (i := 3) sc_z_stands.nd rfl (Or.inl rfl))) (fun _ _ _ _ _ => pts_nil) (fun _ _ _ _ _ => (pe_tup (pa_cons (pv 3) (pa_cons (pe_dget2 hu (pe_dget hu (pv 1) pe_str (fun _ _ => rfl)) (pv 3) (pe_dget hu (pv 1) pe_str (fun _ _ => rfl)) ⟨rfl, rfl, rfl, rfl⟩) (pa_cons (pe_cmp (pc_din hu (pv 3) (pe_dget hu (pv 1) pe_str (fun _ _ => rfl)))) pa_nil))))))
      (pss_cons (ps_set (i := 5) sc_z_stands.nd rfl (.inl rfl) (pe_lst (pa_cons (pv 4) (pa_cons (pe_dget hu (pv 1) pe_str (fun _ _ => rfl)) (pa_cons (pe_dget hu (pv 1) pe_str (fun _ _ => rfl)) (pa_cons (pe_callD D_z_ahead (hr.mono (by omega)) (by rfl) pass0 (pa_cons (pv 1) (pa_cons (pe_dget hu (pv 1) pe_str (fun _ _ => rfl)) pa_nil))) pa_nil))))))
      (pss_cons (ps_expr (pe_bm PySem.F.plainAttrs_list PySem.F.slot_list_append PySem.F.type_list_append mt_append (pv 5) (pa_cons (pe_op op_add_str (pe_op op_add_str (pe_op op_add_str pe_str (pe_callTy call_str_int (by rfl) T.no_str (by decide +kernel) (pa_cons (pe_dget hu (pv 1) pe_str (fun _ _ => rfl)) pa_nil))) pe_str) (pe_callTy call_str_int (by rfl) T.no_str (by decide +kernel) (pa_cons (pe_dget hu (pv 1) pe_str (fun _ _ => rfl)) pa_nil))) pa_nil)))
      (pss_cons (ps_if (pt_not (pt_val (pe_callD D_same (hr.mono (by omega)) (by rfl) pass0 (pa_cons (pe_lst (pa_cons (pe_methD0 T.cl M_exceptions (hr.mono (by omega)) pass0 (pv 0)) (pa_cons (pe_fld (pv 0) rfl) (pa_cons (pe_fld (pv 0) rfl) (pa_cons (pe_methD0 T.cl M_total (hr.mono (by omega)) pass0 (pv 0)) (pa_cons (pe_callB (call_reprD M_repr (hr.mono (by omega)) pass0) (by rfl) T.no_repr (by decide +kernel) (pa_cons (pv 0) pa_nil)) pa_nil)))))) (pa_cons (pv 5) pa_nil))))) (pss_one (ps_ret pe_bl)) pss_nil)
      (pss_cons (ps_for PassesOwn.never rfl (pi_list (pe_lc (own := [("_law_k", 3)]) (g := gName 3) rfl sc_z_stands.nd (pi_list (pv 2)) (blkOk_by (N := ["_law_sizes", "_law_z_here", "_law_some", "_law_k", "_law_rows", "_law_due"]) (sc := defScope s_z_stands) (by decide +kernel)) (fun _ _ _ _ _ => (pg_name (i := 3) sc_z_stands.nd rfl (Or.inl rfl))) (fun _ _ _ _ _ => (pts_one (pt_chain op_le op_lt pe_int (pv 3) (pe_dget hu (pv 1) pe_str (fun _ _ => rfl))))) (fun _ _ _ _ _ => (pv 3)))) (pg_name (i := 3) sc_z_stands.nd rfl (.inl rfl))
        (pss_cons (ps_set (i := 5) sc_z_stands.nd rfl (.inl rfl) (pe_lst (pa_cons (pe_callD D_z_size (hr.mono (by omega)) (by rfl) pass0 (pa_cons (pv 1) (pa_cons (pv 3) pa_nil))) (pa_cons (pe_dget2 hu (pe_dget hu (pv 1) pe_str (fun _ _ => rfl)) (pv 3) (pe_dget hu (pv 1) pe_str (fun _ _ => rfl)) ⟨rfl, rfl, rfl, rfl⟩) (pa_cons (pe_cmp (pc_din hu (pv 3) (pe_dget hu (pv 1) pe_str (fun _ _ => rfl)))) (pa_cons (pe_callD D_z_ahead (hr.mono (by omega)) (by rfl) pass0 (pa_cons (pv 1) (pa_cons (pv 3) pa_nil))) pa_nil))))))
        (pss_one (ps_if (pt_not (pt_val (pe_callD D_same (hr.mono (by omega)) (by rfl) pass0 (pa_cons (pe_lst (pa_cons (pe_methD T.cl M_size (hr.mono (by omega)) passL (pv 0) (pa_cons (pv 3) pa_nil)) (pa_cons (pe_methD T.cl M_own (hr.mono (by omega)) passL (pv 0) (pa_cons (pv 3) pa_nil)) (pa_cons (pe_methD T.cl M_hidden (hr.mono (by omega)) passL (pv 0) (pa_cons (pv 3) pa_nil)) (pa_cons (pe_methD T.cl M_ahead (hr.mono (by omega)) passL (pv 0) (pa_cons (pv 3) pa_nil)) pa_nil))))) (pa_cons (pv 5) pa_nil))))) (pss_one (ps_ret pe_bl)) pss_nil))))
      (pss_one (ps_ret pe_bl))))))), ?_⟩
    have m0 := Z.ok.m0
    have m1 := Z.ok.m1
    have c0 := Z.ok.c0
    have c1 := Z.ok.c1
    have smM : Sm z.many := Sm.of (by omega) (by omega)
    have smC : Sm z.common := Sm.of (by omega) (by omega)
    -- the rows that are due
    refine ⟨_, rfl, a, o, g, z, rfl, Z, fun ys l1 H1 perm pw s1 hl1 => ?_⟩
    refine ⟨l1, rfl, ⟨_, SqL.of hl1⟩, fun D hD => ?_⟩
    have yl : ys.length < 64 := by rw [perm.length_eq]; exact Z.ok.le
    have Z1 := Z.same s1
    refine lc_list (K := K) (a := l1) (xs := ys.map V.int) (fun j H2 => Same H1 H2 ∧ ∃ acc, H2 D = some (.lst acc) ∧ DpT H2 acc ((ys.take j).map (zexc z))) ⟨same_new hD _, [], upd_same, .nil⟩ (fun j H2 _ q => SqL.of (q.1 _ _ hl1)) ?_ ?_
    · rintro j y H2 hy ⟨s2, acc, e2, da⟩
      rw [List.getElem?_map] at hy
      cases hj : ys[j]? with
      | none => rw [hj] at hy; cases hy
      | some kk =>
        rw [hj] at hy
        have hy' : V.int kk = y := Option.some.inj hy
        subst hy'
        have Z2 := Z1.same s2
        refine ⟨rfl, ?_⟩
        unfold tYes
        refine ifT rfl ?_
        refine ⟨_, rfl, _, rfl, _, _, rfl, dg_own Z2.ha, o, rfl, .inl ⟨_, .inl Z2.ho⟩, _, rfl, _, rfl, _, _, rfl, dg_common Z2.ha, _, dg_own1 Z2.ho kk, _, rfl, _, rfl, _, _, rfl, dg_gone Z2.ha, g, _, rfl, dg_gone1 Z2.hg kk, (by show 3 ≤ sizeLine; decide), fun t ht => ?_⟩
        rw [opt_int, gone_some]
        have s5 := same_new ht (.tup [.int kk, .int ((zown z.own kk).getD z.common), .bl (decide (kk ∈ z.gone))])
        have e5 := s5 _ _ e2
        have al : acc.length = (ys.take j).length := by rw [da.len, List.length_map]
        refine ⟨acc, e5, ?_, ?_, _, upd_same, ?_⟩
        · refine Nat.lt_of_le_of_lt ?_ (show 64 < sizeLine by decide)
          rw [al]
          exact Nat.le_trans (List.length_take_le' _ _) (by omega)
        · intro b' o' z'
          rw [upd_ne (ne_of_none z' hD)]
          exact s5 _ _ (s2 _ _ z')
        · rw [take_map1 _ _ hj]
          have ts := TupSame.upd e5 (fun xs e => by cases e) (.lst (acc ++ [.ref t]))
          exact (da.mono ((TupSame.of s5).trans ts)).append (.cons ⟨t, rfl, ts _ _ upd_same⟩ .nil)
    rintro H2 ⟨s2, acc, e2, da⟩
    rw [List.length_map, List.take_length] at da
    have Z2 := Z1.same s2
    have dRows : Dp K H2 (.ref D) (.list ((ys.map (zexc z)).map exD)) := .lst (SqL.of e2) da.dp
    -- due
    refine ⟨_, rfl, _, rfl, _, _, rfl, dg_many Z2.ha, _, rfl, _, _, rfl, dg_common Z2.ha, _, rfl, _, rfl, _, _, rfl, dg_many Z2.ha, a, o, g, z, _, rfl, Z2, fun H3 s3 => ?_⟩
    refine ⟨(by show 4 ≤ sizeLine; decide), fun l3 n3 => ?_⟩
    have s4 := same_new n3 (.lst [.ref D, .int z.many, .int z.common, .int (zah z z.many)])
    have Z4 := (Z2.same s3).same s4
    have lm := smM.len
    have lc := smC.len
    refine ⟨_, rfl, .inl ⟨rfl, _, SqL.of upd_same⟩, _, rfl, _, _, rfl, dg_many Z4.ha, _, rfl, smM.log, _, _, rfl, rfl, ?_, _, _, rfl, rfl, ?_, _, rfl, _, _, rfl, dg_common Z4.ha, _, rfl, smC.log, _, _, rfl, rfl, ?_, l3, _, _, rfl, rfl, upd_same, (by show 4 < sizeLine; decide), ?_⟩
    · exact small (by show 6 + _ ≤ 1000; omega)
    · exact small (by rw [PySem.Str.length_append]; show 6 + _ + 1 ≤ 1000; omega)
    · exact small (by rw [PySem.Str.length_append, PySem.Str.length_append]; show 6 + _ + 1 + _ ≤ 1000; omega)
    rw [upd_upd]
    show ∃ _, _
    have s5 : Same H3 (upd H3 l3 (.lst ([.ref D, .int z.many, .int z.common, .int (zah z z.many)] ++ [.str (reprZ z.many z.common)]))) := same_new n3 _
    obtain ⟨H5, eH5⟩ : ∃ H5, H5 = upd H3 l3 (.lst ([.ref D, .int z.many, .int z.common, .int (zah z z.many)] ++ [.str (reprZ z.many z.common)])) := ⟨_, rfl⟩
    have h5l : H5 l3 = some (.lst [.ref D, .int z.many, .int z.common, .int (zah z z.many), .str (reprZ z.many z.common)]) := by rw [eH5]; exact upd_same
    rw [← eH5] at s5
    have sA := s1.trans (s2.trans (s3.trans s5))
    have S5 := S.same sA
    obtain ⟨dx, kvs, h1, h2, h3, W⟩ := id S5
    have dR5 := dp_same (s3.trans s5) _ _ dRows
    have eq5 : upd H3 l3 (.lst ([.ref D, .int z.many, .int z.common, .int (zah z z.many)] ++ [.str (("Sizes " : Str) ++ (toString z.many : String) ++ (" " : Str) ++ (toString z.common : String))])) = H5 := eH5.symm
    refine (show _ from ?_)
    clear eH5
    subst eq5
    -- all of it at once
    refine ⟨_, rfl, p, dx, _, rfl, h1, fz_no _ _ _, p, d, sz, rfl, S5, fun ys2 lx H6 perm2 pw2 s6 d6 => ?_⟩
    have S6 := S5.same s6
    have h16 := s6 _ _ h1
    refine ⟨_, rfl, p, C, dx, _, _, rfl, h16, T.cl, T.n_many, fz_many _ _ _, _, rfl, p, C, dx, _, _, rfl, h16, T.cl, T.n_common, fz_common _ _ _, _, rfl, p, dx, _, rfl, h16, fz_no _ _ _, p, d, sz, rfl, S6, fun H7 s7 => ?_⟩
    have S7 := S6.same s7
    refine ⟨_, rfl, p, dx, _, rfl, s7 _ _ h16, p, d, sz, rfl, S7.r, ⟨_, rfl⟩, (by show 5 ≤ sizeLine; decide), fun L nL => ?_⟩
    have s8 := same_new nL (.lst [.ref lx, .int sz.many, .int sz.common, .int (ahM sz sz.many), .str (reprM sz)])
    have sB := s6.trans (s7.trans s8)
    have ey : ys2 = ys := sorted_eq (perm2.trans (R.keys.trans perm.symm)) pw2 pw
    have ed : (ys2.map (exc1 sz)).map exD = (ys.map (zexc z)).map exD := by
      rw [ey]
      congr 1
      exact List.map_congr_left fun k _ => R.exc k
    rw [ed] at d6
    refine ⟨_, rfl, _, _, .list [.list ((ys.map (zexc z)).map exD), .int z.many, .int z.common, .int (zah z z.many), .str (reprZ z.many z.common)], rfl, ?_, ?_, ?_, ?_, fun H9 s9 => ⟨_, rfl, ?_⟩⟩
    · refine .lst (SqL.of upd_same) ?_
      exact .cons (dp_same (s7.trans s8) _ _ d6) (.cons (dpI R.many) (.cons (dpI R.common) (.cons (dpI (by rw [R.ah, R.many])) (.cons (dpS R.repr) .nil))))
    · exact .lst (SqL.of (sB _ _ h5l)) (.cons (dp_same sB _ _ dR5) (.cons (.int _) (.cons (.int _) (.cons (.int _) (.cons (.str _) .nil)))))
    · have := ex_depth (ys.map (zexc z))
      simp only [PyData.depth, PyData.depthAll]
      omega
    · have := ex_mxl (ys.map (zexc z))
      simp only [mxl, mxlAll, List.length_cons, List.length_nil, List.length_map]
      omega
    refine ifF (by simp) ?_
    have sC := sA.trans (sB.trans s9)
    clear sB s9 s8 s7 s6 d6 dR5 h5l
    have hl9 := sC _ _ hl
    have Z9 := Z.same sC
    have S9 := S.same sC
    -- one by one
    refine ⟨_, rfl, l, rfl, ⟨_, SqL.of hl9⟩, fun D2 hD2 => ?_⟩
    refine lc_list (K := K) (a := l) (xs := ns.map V.int) (fun j H10 => Same H9 H10 ∧ H10 D2 = some (.lst (((ns.take j).filter fun k => decide (0 ≤ k) && decide (k < z.many)).map V.int))) ⟨same_new hD2 _, upd_same⟩ (fun j H10 _ q => SqL.of (q.1 _ _ hl9)) ?_ ?_
    · rintro j y H10 hy ⟨s10, e10⟩
      rw [List.getElem?_map] at hy
      cases hj : ns[j]? with
      | none => rw [hj] at hy; cases hy
      | some kk =>
        rw [hj] at hy
        have hy' : V.int kk = y := Option.some.inj hy
        subst hy'
        refine ⟨rfl, ?_⟩
        have noK : (decide (0 ≤ kk) && decide (kk < z.many)) = false → Same H9 H10 ∧ H10 D2 = some (.lst (((ns.take (j + 1)).filter fun k => decide (0 ≤ k) && decide (k < z.many)).map V.int)) := fun q => by
          refine ⟨s10, ?_⟩
          rw [take_filter1 _ _ hj, q, if_neg (by simp), List.append_nil]
          exact e10
        refine ⟨_, rfl, _, _, rfl, rfl, _, rfl, ?_⟩
        refine ite2 (fun q => ?_) (fun q => ?_)
        · refine ⟨_, rfl, _, _, rfl, dg_many (s10 _ _ Z9.ha), _, _, rfl, rfl, _, rfl, ?_⟩
          refine ite2 (fun q2 => ?_) (fun q2 => ?_)
          · refine ⟨_, rfl, _, e10, ?_, ?_, ?_⟩
            · refine Nat.lt_of_le_of_lt ?_ (show 1000 < sizeLine by decide)
              rw [List.length_map]
              exact Nat.le_trans (List.length_filter_le _ _) (Nat.le_trans (List.length_take_le' _ _) hln)
            · intro b' o' z'
              rw [upd_ne (ne_of_none z' hD2)]
              exact s10 _ _ z'
            · rw [upd_same, take_filter1 _ _ hj, if_pos (by rw [q, q2]; rfl), List.map_append]
              rfl
          · exact noK (by rw [q, Bool.eq_false_iff.mpr q2]; rfl)
        · refine ⟨_, rfl, ?_⟩
          refine ifF (by simp) ?_
          exact noK (by rw [Bool.eq_false_iff.mpr q]; rfl)
    rintro H10 ⟨s10, e10⟩
    rw [List.length_map, List.take_length] at e10
    obtain ⟨nn, enn⟩ : ∃ nn, nn = ns.filter fun k => decide (0 ≤ k) && decide (k < z.many) := ⟨_, rfl⟩
    rw [← enn] at e10
    refine ⟨D2, rfl, ⟨_, SqL.of e10⟩, ?_⟩
    refine for_list (K := K) (a := D2) (xs := nn.map V.int) (fun j σ H11 => Same H10 H11 ∧ ∃ v3 v5, σ = [some (.ref p), some (.ref a), some (.ref l), v3, some (.ref D), v5]) ⟨Same.refl _, _, _, rfl⟩ (fun j σ H11 _ q => SqL.of (q.1 _ _ e10)) ?_ ?_
    · rintro j y σ H11 hy ⟨s11, v3, v5, rfl⟩
      rw [List.getElem?_map] at hy
      cases hj : nn[j]? with
      | none => rw [hj] at hy; cases hy
      | some kk =>
        rw [hj] at hy
        have hy' : V.int kk = y := Option.some.inj hy
        subst hy'
        have hin : kk ∈ nn := List.mem_of_getElem? hj
        rw [enn, List.mem_filter] at hin
        have hb : 0 ≤ kk ∧ kk < z.many := by
          have := hin.2
          simp only [Bool.and_eq_true, decide_eq_true_eq] at this
          exact this
        have smk := hns kk hin.1
        have Z11 := (Z9.same s10).same s11
        have S11 := (S9.same s10).same s11
        have inr : inR sz kk := ⟨hb.1, by rw [R.many]; exact hb.2⟩
        obtain ⟨dx', kvs', h11, _⟩ := id S11
        refine ⟨_, rfl, _, rfl, a, o, g, z, kk, rfl, Z11, ?_⟩
        refine ⟨_, rfl, _, _, rfl, dg_own Z11.ha, o, rfl, .inl ⟨_, .inl Z11.ho⟩, _, rfl, _, rfl, _, _, rfl, dg_common Z11.ha, _, dg_own1 Z11.ho kk, _, rfl, _, rfl, _, _, rfl, dg_gone Z11.ha, g, _, rfl, dg_gone1 Z11.hg kk, _, rfl, _, rfl, a, o, g, z, kk, rfl, Z11, fun H12 s12 => ?_⟩
        rw [opt_int, gone_some]
        refine ⟨(by show 4 ≤ sizeLine; decide), fun l5 n5 => ?_⟩
        have s13 := same_new n5 (.lst [.int (zsz z kk), .int ((zown z.own kk).getD z.common), .bl (decide (kk ∈ z.gone)), .int (zah z kk)])
        have S13 := (S11.same s12).same s13
        have h13 := s13 _ _ (s12 _ _ h11)
        refine ⟨_, rfl, p, dx', _, rfl, h13, fz_no _ _ _, _, rfl, p, d, sz, kk, rfl, S13.r, smk, fun _ H14 s14 => ?_, fun no => absurd inr no⟩
        refine ⟨_, rfl, p, dx', _, rfl, s14 _ _ h13, fz_no _ _ _, _, rfl, p, d, sz, kk, rfl, S13.r.same s14, smk, fun _ H15 s15 => ?_, fun no => absurd inr no⟩
        have s145 := s14.trans s15
        refine ⟨_, rfl, p, dx', _, rfl, s145 _ _ h13, fz_no _ _ _, _, rfl, p, d, sz, kk, rfl, S13.r.same s145, smk, fun _ H16 s16 => ?_, fun no => absurd inr no⟩
        have s146 := s145.trans s16
        refine ⟨_, rfl, p, dx', _, rfl, s146 _ _ h13, fz_no _ _ _, _, rfl, p, d, sz, kk, rfl, S13.same s146, smk, fun _ H17 s17 => ?_, fun no => absurd ⟨inr.1, Int.le_of_lt inr.2⟩ no⟩
        refine ⟨(by show 4 ≤ sizeLine; decide), fun l6 n6 => ?_⟩
        have s18 := same_new n6 (.lst [.int (szM sz kk), .int (stM sz kk).1, .bl (stM sz kk).2, .int (ahM sz kk)])
        have s19 := s146.trans (s17.trans s18)
        have est : stM sz kk = ((zown z.own kk).getD z.common, decide (kk ∈ z.gone)) := R.st kk
        refine ⟨_, rfl, _, _, .list [.int (zsz z kk), .int ((zown z.own kk).getD z.common), .bool (decide (kk ∈ z.gone)), .int (zah z kk)], rfl, ?_, ?_, ?_, ?_, fun H20 s20 => ⟨_, rfl, ?_⟩⟩
        · refine .lst (SqL.of upd_same) ?_
          exact .cons (dpI (R.sz kk)) (.cons (dpI (by rw [est])) (.cons (dpB (by rw [est])) (.cons (dpI (R.ah kk)) .nil)))
        · exact .lst (SqL.of (s19 _ _ upd_same)) (.cons (.int _) (.cons (.int _) (.cons (.bl _) (.cons (.int _) .nil))))
        · simp [PyData.depth, PyData.depthAll]
        · simp [mxl, mxlAll]
        refine ifF (by simp) ?_
        exact ⟨s11.trans (s12.trans (s13.trans (s19.trans s20))), _, _, rfl⟩
    rintro σ H11 ⟨s11, v3, v5, rfl⟩
    exact k1 _ (sC.trans (s10.trans s11))
abbrev s_z : Stmt := top 20
theorem sc_z : FnScope ["_law_many", "_law_usual"] ["_law_many", "_law_usual"] (defScope s_z) := ⟨rfl, rfl, rfl, by decide +kernel, rfl, by decide +kernel, by decide +kernel⟩
theorem ok_z (F : Fun K "_law_z" "_law_z" s_z f fd) (T : Tx K mg C cN cP cM cS cF tG tM tQ tR)  : FnOk P w K mg base CX0 1 f fd ["_law_many", "_law_usual"] spZnew := by
  refine F.ok sc_z (fun vs H Q E h => ?_) (fun cdv A outer s H vs Q E hr h => ?_)
  · obtain ⟨n, c, rfl, _⟩ := h
    rfl
  · obtain ⟨n, c, rfl, hn, hc, k⟩ := h
    refine ⟨_, (pss_one (ps_ret (pe_disp (pps_cons pe_str (pv 0) (pps_cons pe_str (pv 1) (pps_cons pe_str pe_dnewK (pps_cons pe_str pe_dnewK pps_nil)))) (by rfl) (by rfl) (fun z => by cases z) (by decide)))), ?_⟩
    refine fun a na => ⟨_, rfl, _, rfl, fun o no => fun g ng => ?_⟩
    have s1 := same_new na (.dK [])
    have s2 := same_new no (.dK [])
    have s3 := same_new ng (.dK [])
    have ha : upd (upd (upd H a (.dK [])) o (.dK [])) g (.dK []) a = some (.dK []) := s3 _ _ (s2 _ _ upd_same)
    have ao : a ≠ o := ne_of_none upd_same no
    have og : o ≠ g := ne_of_none upd_same ng
    have ag : a ≠ g := ne_of_none (s2 _ _ upd_same) ng
    refine ⟨ha, zL n c o g, rfl, (by show 4 ≤ 15; decide), ?_⟩
    rw [merge_zL]
    have so : Same H (upd (upd (upd (upd H a (.dK [])) o (.dK [])) g (.dK [])) a (.dK (zL n c o g))) := fun b v q => by
      rw [upd_ne (ne_of_none q na)]
      exact s3 _ _ (s2 _ _ (s1 _ _ q))
    refine k a o g _ so ⟨upd_same, ?_, ?_, ao, ag, og, ⟨hn.1, hn.2, hc.1, hc.2, by show 0 < 64; decide, by show 0 ≤ 1000; decide, by show 0 ≤ 1000; decide, fun k hk => nomatch hk⟩⟩ na (s1.free no) (s1.free (s2.free ng))
    · rw [upd_ne ao.symm]
      exact s3 _ _ upd_same
    · rw [upd_ne ag.symm]
      exact upd_same
abbrev s_z_with : Stmt := top 22
theorem sc_z_with : FnScope ["_law_z_here", "_law_k", "_law_size", "_law_hidden", "_law_made"] ["_law_z_here", "_law_k", "_law_size", "_law_hidden"] (defScope s_z_with) := ⟨rfl, rfl, rfl, by decide +kernel, rfl, by decide +kernel, by decide +kernel⟩
theorem ok_z_with (F : Fun K "_law_z_with" "_law_z_with" s_z_with f fd) (T : Tx K mg C cN cP cM cS cF tG tM tQ tR)  : FnOk P w K mg base CX0 1 f fd ["_law_z_here", "_law_k", "_law_size", "_law_hidden"] spZwith := by
  refine F.ok sc_z_with (fun vs H Q E h => ?_) (fun cdv A outer s H vs Q E hr h => ?_)
  · obtain ⟨a, o, g, z, k, size, hid, rfl, _⟩ := h
    rfl
  · obtain ⟨a, o, g, z, k, size, hid, rfl, S, q⟩ := h
    have hu := hu_of hr
    refine ⟨_, (pss_cons (ps_set (i := 4) sc_z_with.nd rfl (.inl rfl) (pe_callTy call_dictD (by rfl) T.no_dict (by decide +kernel) (pa_cons (pv 0) pa_nil)))
      (pss_cons (ps_dput hu (pv 4) pe_str (pe_callTy call_dictD (by rfl) T.no_dict (by decide +kernel) (pa_cons (pe_dget hu (pv 0) pe_str (fun _ _ => rfl)) pa_nil)) rfl)
      (pss_cons (ps_dput hu (pv 4) pe_str (pe_callTy call_dictD (by rfl) T.no_dict (by decide +kernel) (pa_cons (pe_dget hu (pv 0) pe_str (fun _ _ => rfl)) pa_nil)) rfl)
      (pss_cons (ps_expr (pe_dpop2 (pe_dget hu (pv 4) pe_str (fun _ _ => rfl)) (pv 1) pe_non ⟨rfl, rfl, rfl, rfl⟩))
      (pss_cons (ps_expr (pe_dpop2 (pe_dget hu (pv 4) pe_str (fun _ _ => rfl)) (pv 1) pe_non ⟨rfl, rfl, rfl, rfl⟩))
      (C8.pss_cut (ps_if (pt_cmpR op_ne (pv 2) (pe_dget hu (pv 0) pe_str (fun _ _ => rfl)) (nomark _)) (pss_one (ps_dput hu (pe_dget hu (pv 4) pe_str (fun _ _ => rfl)) (pv 1) (pv 2) rfl)) pss_nil)
      (C8.pss_cut (ps_if (pt_val (pv 3)) (pss_one (ps_dput hu (pe_dget hu (pv 4) pe_str (fun _ _ => rfl)) (pv 1) pe_bl rfl)) pss_nil)
      (pss_one (ps_ret (pv 4)))))))))), ?_⟩
    refine ⟨_, rfl, a, _, rfl, .inl S.ha, fun a1 na1 => ?_⟩
    have s1 := same_new na1 (.dK (zL z.many z.common o g))
    have e1 : upd H a1 (.dK (zL z.many z.common o g)) a1 = some (.dK (zL z.many z.common o g)) := upd_same
    generalize upd H a1 (.dK (zL z.many z.common o g)) = H1 at s1 e1 ⊢
    have S1 := S.same s1
    refine ⟨_, rfl, _, _, rfl, dg_own S1.ha, o, _, rfl, .inl S1.ho, fun o1 no1 => ?_⟩
    have s2 := same_new no1 (.dK (ownK z.own))
    have e2 : upd H1 o1 (.dK (ownK z.own)) o1 = some (.dK (ownK z.own)) := upd_same
    generalize upd H1 o1 (.dK (ownK z.own)) = H2 at s2 e2 ⊢
    have a1o1 : a1 ≠ o1 := ne_of_none e1 no1
    refine ⟨_, rfl, a1, _, rfl, .inl ⟨_, Sum.inr "own", s2 _ _ e1, rfl, by show 4 < sizeLine; decide, rfl⟩, ?_⟩
    rw [put_zL_own]
    have sA : Same H (upd H2 a1 (.dK (zL z.many z.common o1 g))) := sameU (s1.trans s2) na1 _
    have eA1 : upd H2 a1 (.dK (zL z.many z.common o1 g)) a1 = some (.dK (zL z.many z.common o1 g)) := upd_same
    have eA2 : upd H2 a1 (.dK (zL z.many z.common o1 g)) o1 = some (.dK (ownK z.own)) := by rw [upd_ne a1o1.symm]; exact e2
    have no1' : H o1 = none := s1.free no1
    generalize upd H2 a1 (.dK (zL z.many z.common o1 g)) = HA at sA eA1 eA2 ⊢
    have SA := S.same sA
    refine ⟨_, rfl, _, _, rfl, dg_gone SA.ha, g, _, rfl, .inl SA.hg, fun g1 ng1 => ?_⟩
    have ng1' : H g1 = none := sA.free ng1
    have a1g1 : a1 ≠ g1 := ne_of_none eA1 ng1
    have o1g1 : o1 ≠ g1 := ne_of_none eA2 ng1
    have s3 := same_new ng1 (.dK (goneK z.gone))
    have e3 : upd HA g1 (.dK (goneK z.gone)) g1 = some (.dK (goneK z.gone)) := upd_same
    generalize upd HA g1 (.dK (goneK z.gone)) = H3 at s3 e3 ⊢
    refine ⟨_, rfl, a1, _, rfl, .inl ⟨_, Sum.inr "gone", s3 _ _ eA1, rfl, by show 4 < sizeLine; decide, rfl⟩, ?_⟩
    rw [put_zL_gone]
    have sB : Same H (upd H3 a1 (.dK (zL z.many z.common o1 g1))) := sameU (sA.trans s3) na1 _
    have eB1 : upd H3 a1 (.dK (zL z.many z.common o1 g1)) a1 = some (.dK (zL z.many z.common o1 g1)) := upd_same
    have eB2 : upd H3 a1 (.dK (zL z.many z.common o1 g1)) o1 = some (.dK (ownK z.own)) := by rw [upd_ne a1o1.symm]; exact s3 _ _ eA2
    have eB3 : upd H3 a1 (.dK (zL z.many z.common o1 g1)) g1 = some (.dK (goneK z.gone)) := by rw [upd_ne a1g1.symm]; exact e3
    generalize upd H3 a1 (.dK (zL z.many z.common o1 g1)) = HB at sB eB1 eB2 eB3 ⊢
    refine ⟨_, rfl, _, _, rfl, dg_own eB1, o1, rfl, .inl ⟨_, .inl eB2⟩, _, rfl, _, Sum.inl k, eB2, rfl, pop_both (z := .non) eB2 fun v => ?_⟩
    rw [drop_ownK]
    obtain ⟨own', eo⟩ : ∃ own', own' = z.own.filter fun e => decide (e.1 ≠ k) := ⟨_, rfl⟩
    rw [← eo]
    have sC := sameU sB no1' (.dK (ownK own'))
    have eC1 : upd HB o1 (.dK (ownK own')) a1 = _ := (upd_ne a1o1).trans eB1
    have eC2 : upd HB o1 (.dK (ownK own')) o1 = some (.dK (ownK own')) := upd_same
    have eC3 : upd HB o1 (.dK (ownK own')) g1 = _ := (upd_ne o1g1.symm).trans eB3
    generalize upd HB o1 (.dK (ownK own')) = HC at sC eC1 eC2 eC3 ⊢
    refine ⟨_, rfl, _, _, rfl, dg_gone eC1, g1, rfl, .inl ⟨_, .inl eC3⟩, _, rfl, _, Sum.inl k, eC3, rfl, pop_both (z := .non) eC3 fun v => ?_⟩
    rw [drop_goneK]
    obtain ⟨gone', eg⟩ : ∃ gone', gone' = z.gone.filter fun j => decide (j ≠ k) := ⟨_, rfl⟩
    rw [← eg]
    have sD := sameU sC ng1' (.dK (goneK gone'))
    have eD1 : upd HC g1 (.dK (goneK gone')) a1 = _ := (upd_ne a1g1).trans eC1
    have eD2 : upd HC g1 (.dK (goneK gone')) o1 = _ := (upd_ne o1g1).trans eC2
    have eD3 : upd HC g1 (.dK (goneK gone')) g1 = some (.dK (goneK gone')) := upd_same
    generalize upd HC g1 (.dK (goneK gone')) = HD at sD eD1 eD2 eD3 ⊢
    have SD := S.same sD
    have l1 : own'.length ≤ 1000 := by rw [eo]; exact Nat.le_trans (List.length_filter_le _ _) S.ok.l1
    have l2 : gone'.length ≤ 1000 := by rw [eg]; exact Nat.le_trans (List.length_filter_le _ _) S.ok.l2
    refine ⟨fun σ H' => σ = List.set (start ["_law_z_here", "_law_k", "_law_size", "_law_hidden", "_law_made"] [.ref a, .int k, .int size, .bl hid]) 4 (some (.ref a1)) ∧ Same H H' ∧ H' a1 = some (.dK (zL z.many z.common o1 g1)) ∧ H' o1 = some (.dK (ownK (own' ++ (if size ≠ z.common then [(k, size)] else [])))) ∧ H' g1 = some (.dK (goneK gone')), ?_, ?_⟩
    · refine ⟨_, rfl, _, rfl, _, _, rfl, dg_common SD.ha, rfl, _, rfl, ?_⟩
      refine ite2 (fun c => ?_) (fun c => ?_)
      · have c' : size ≠ z.common := by
          intro e
          rw [e] at c
          simp at c
        rw [if_pos c']
        refine ⟨_, rfl, _, rfl, _, _, rfl, dg_own eD1, _, rfl, o1, _, rfl, .inl ⟨_, Sum.inl k, eD2, rfl, ?_, rfl⟩, rfl, ?_⟩
        · unfold ownK
          rw [List.length_map]
          exact Nat.lt_of_le_of_lt l1 (show 1000 < sizeLine by decide)
        rw [eo, ← drop_ownK, putK_drop, drop_ownK, ← eo]
        refine ⟨sameU sD no1' _, (upd_ne a1o1).trans eD1, ?_, (upd_ne o1g1.symm).trans eD3⟩
        rw [upd_same]
        unfold ownK
        rw [List.map_append]
        rfl
      · have c' : size = z.common := by
          by_cases e : size = z.common
          · exact e
          · exact absurd (by simpa using e) c
        rw [if_neg (fun n => n c'), List.append_nil]
        exact ⟨rfl, sD, eD1, eD2, eD3⟩
    rintro σ HE ⟨rfl, sE, eE1, eE2, eE3⟩
    refine ⟨fun σ H' => σ = List.set (start ["_law_z_here", "_law_k", "_law_size", "_law_hidden", "_law_made"] [.ref a, .int k, .int size, .bl hid]) 4 (some (.ref a1)) ∧ Same H H' ∧ ZH H' a1 o1 g1 (zwithM z k size hid), ?_, ?_⟩
    · refine ⟨_, rfl, _, rfl, ?_⟩
      refine ite2 (fun c => ?_) (fun c => ?_)
      · refine ⟨_, rfl, _, _, rfl, dg_gone eE1, _, rfl, g1, _, rfl, .inl ⟨_, Sum.inl k, eE3, rfl, ?_, rfl⟩, rfl, ?_⟩
        · unfold goneK
          rw [List.length_map]
          exact Nat.lt_of_le_of_lt l2 (show 1000 < sizeLine by decide)
        rw [eg, ← drop_goneK, putK_drop, drop_goneK, ← eg]
        refine ⟨sameU sE ng1' _, ⟨(upd_ne a1g1).trans eE1, ?_, ?_, a1o1, a1g1, o1g1⟩⟩
        · rw [upd_ne o1g1, eE2]
          unfold zwithM
          rw [eo]
        · rw [upd_same]
          unfold zwithM
          simp only [if_pos c]
          unfold goneK
          rw [List.map_append, eg]
          rfl
      · refine ⟨rfl, sE, ⟨eE1, ?_, ?_, a1o1, a1g1, o1g1⟩⟩
        · rw [eE2]
          unfold zwithM
          rw [eo]
        · rw [eE3]
          unfold zwithM
          simp only [if_neg c]
          rw [List.append_nil, eg]
    rintro σ HF ⟨rfl, sF, ZF⟩
    exact ⟨_, rfl, q a1 o1 g1 HF sF ZF na1 no1' ng1'⟩
abbrev s_z_set : Stmt := top 23
theorem sc_z_set : FnScope ["_law_z_here", "_law_k", "_law_size"] ["_law_z_here", "_law_k", "_law_size"] (defScope s_z_set) := ⟨rfl, rfl, rfl, by decide +kernel, rfl, by decide +kernel, by decide +kernel⟩
theorem ok_z_set (F : Fun K "_law_z_set" "_law_z_set" s_z_set f fd) (T : Tx K mg C cN cP cM cS cF tG tM tQ tR) (D_z_with : Dn P w K mg base CX0 1 "_law_z_with" ["_law_z_here", "_law_k", "_law_size", "_law_hidden"] spZwith) : FnOk P w K mg base CX0 2 f fd ["_law_z_here", "_law_k", "_law_size"] spZset := by
  refine F.ok sc_z_set (fun vs H Q E h => ?_) (fun cdv A outer s H vs Q E hr h => ?_)
  · obtain ⟨a, o, g, z, k, size, rfl, _⟩ := h
    rfl
  · obtain ⟨a, o, g, z, k, size, rfl, S, q⟩ := h
    have hu := hu_of hr
    refine ⟨_, (pss_one (ps_ret (pe_callD D_z_with (hr.mono (by omega)) (by rfl) pass0 (pa_cons (pv 0) (pa_cons (pv 1) (pa_cons (pv 2) (pa_cons (pe_cmp (pc_din hu (pv 1) (pe_dget hu (pv 0) pe_str (fun _ _ => rfl)))) pa_nil))))))), ?_⟩
    refine ⟨_, rfl, _, rfl, _, rfl, _, rfl, _, rfl, _, _, rfl, dg_gone S.ha, g, _, rfl, dg_gone1 S.hg k, ?_⟩
    rw [gone_some]
    exact ⟨a, o, g, z, k, size, _, rfl, S, q⟩
abbrev s_z_hide : Stmt := top 24
theorem sc_z_hide : FnScope ["_law_z_here", "_law_k", "_law_hidden"] ["_law_z_here", "_law_k", "_law_hidden"] (defScope s_z_hide) := ⟨rfl, rfl, rfl, by decide +kernel, rfl, by decide +kernel, by decide +kernel⟩
theorem ok_z_hide (F : Fun K "_law_z_hide" "_law_z_hide" s_z_hide f fd) (T : Tx K mg C cN cP cM cS cF tG tM tQ tR) (D_z_with : Dn P w K mg base CX0 1 "_law_z_with" ["_law_z_here", "_law_k", "_law_size", "_law_hidden"] spZwith) : FnOk P w K mg base CX0 2 f fd ["_law_z_here", "_law_k", "_law_hidden"] spZhide := by
  refine F.ok sc_z_hide (fun vs H Q E h => ?_) (fun cdv A outer s H vs Q E hr h => ?_)
  · obtain ⟨a, o, g, z, k, hid, rfl, _⟩ := h
    rfl
  · obtain ⟨a, o, g, z, k, hid, rfl, S, q⟩ := h
    have hu := hu_of hr
    refine ⟨_, (pss_one (ps_ret (pe_callD D_z_with (hr.mono (by omega)) (by rfl) pass0 (pa_cons (pv 0) (pa_cons (pv 1) (pa_cons (pe_dget2 hu (pe_dget hu (pv 0) pe_str (fun _ _ => rfl)) (pv 1) (pe_dget hu (pv 0) pe_str (fun _ _ => rfl)) ⟨rfl, rfl, rfl, rfl⟩) (pa_cons (pv 2) pa_nil))))))), ?_⟩
    refine ⟨_, rfl, _, rfl, _, rfl, _, _, rfl, dg_own S.ha, o, rfl, .inl ⟨_, .inl S.ho⟩, _, rfl, _, rfl, _, _, rfl, dg_common S.ha, _, dg_own1 S.ho k, _, rfl, ?_⟩
    rw [opt_int]
    exact ⟨a, o, g, z, k, _, hid, rfl, S, q⟩
end
end K04

set_option Elab.async false
set_option linter.all false
set_option maxRecDepth 100000
set_option maxHeartbeats 4000000
namespace K04
open PySem L2 Gs
section
variable {P : Program} {w : World} {K : PySem.W.Frag} {mg : Str → Option Value} {base : Heap} {f : Addr} {fd : FuncData} {C cN cP cM cS cF : Addr} {tG tM tQ tR : Tok}
abbrev s_go_on : Stmt := top 25
theorem sc_go_on : FnScope ["_law_way", "_law_at", "_law_many", "_law_k"] ["_law_way", "_law_at", "_law_many", "_law_k"] (defScope s_go_on) := ⟨rfl, rfl, rfl, by decide +kernel, rfl, by decide +kernel, by decide +kernel⟩
theorem ok_go_on (F : Fun K "_law_go_on" "_law_go_on" s_go_on f fd) (T : Tx K mg C cN cP cM cS cF tG tM tQ tR)  : FnOk P w K mg base CX0 1 f fd ["_law_way", "_law_at", "_law_many", "_law_k"] spGo := by
  refine F.ok sc_go_on (fun vs H Q E h => ?_) (fun cdv A outer s H vs Q E hr h => ?_)
  · obtain ⟨put, i, n, k, rfl, _⟩ := h
    rfl
  · obtain ⟨put, i, n, k, rfl, q⟩ := h
    have mm : ∀ b : Bool, (0 : Int) ≤ (if b = true then 1 else 0) ∧ (if b = true then (1 : Int) else 0) ≤ 1 := fun b => by cases b <;> simp
    have ncp : ¬ (V.str "cut" = V.str "put") := fun e => by
      have e' : ("cut" : Str) = "put" := by injection e
      exact absurd e' (by decide +kernel)
    refine ⟨_, (pss_cons (ps_if (pt_cmpR op_eq (pv 0) pe_str (nomark _)) (pss_one (ps_ret (pe_op op_add (pv 3) (pe_op op_mul (pv 2) (pe_callTy call_int1 (by rfl) T.no_int (by decide +kernel) (pa_cons (pe_cmpR op_ge (pv 3) (pv 1) (nomark _)) pa_nil)))))) pss_nil)
      (pss_one (ps_ret (pe_ifExp (pt_chain op_le op_lt (pv 1) (pv 3) (pe_op op_add (pv 1) (pv 2))) pe_non (pe_op op_sub (pv 3) (pe_op op_mul (pv 2) (pe_callTy call_int1 (by rfl) T.no_int (by decide +kernel) (pa_cons (pe_cmpR op_ge (pv 3) (pv 1) (nomark _)) pa_nil)))))))), ?_⟩
    refine ⟨_, rfl, rfl, _, rfl, ?_⟩
    cases put with
    | true =>
      refine ifT (decide_eq_true rfl) ?_
      refine ⟨_, rfl, _, rfl, _, rfl, _, rfl, _, _, rfl, rfl, .inr ⟨_, rfl, ?_⟩⟩
      obtain ⟨m, em⟩ : ∃ m : Int, m = (if decide (i ≤ k) = true then 1 else 0) := ⟨_, rfl⟩
      have hm := mm (decide (i ≤ k))
      rw [← em] at hm
      refine ⟨n, m, rfl, (by rw [em]), .inr ⟨by omega, by omega⟩, _, _, rfl, rfl, ?_⟩
      have e : gof true i n k = some (k + n * m) := by
        show some (if k < i then k else k + n) = some (k + n * m)
        rw [em]
        by_cases h : k < i
        · rw [if_pos h, decide_eq_false (by omega : ¬ i ≤ k)]
          simp
        · rw [if_neg h, decide_eq_true (by omega : i ≤ k)]
          simp
      rw [e] at q
      exact q
    | false =>
      refine ifF (by rw [show decide (V.str (wayS false) = V.str "put") = false from decide_eq_false ncp]; simp) ?_
      have e0 : gof false i n k = fCut i n k := rfl
      unfold fCut at e0
      have outp : ¬ (i ≤ k ∧ k < i + n) → tOp (rI0 fun i j => V.int (i - j)) (tVar 3) (tOp (rI CMul fun i j => V.int (i * j)) (tVar 2) (tCB (fun xs H Q => (∃ i, xs = [V.int i] ∧ Q (V.int i) H) ∨ ∃ k, xs = [V.bl k] ∧ Q (V.int (if k = true then 1 else 0)) H) (tCons (tOp (rI0 fun i j => V.bl (decide (j ≤ i))) (tVar 3) (tVar 1)) tNil))) (start ["_law_way", "_law_at", "_law_many", "_law_k"] [.str (wayS false), .int i, .int n, .int k]) H fun v H' => Q v H' := fun no => by
        refine ⟨_, rfl, _, rfl, _, rfl, _, rfl, _, _, rfl, rfl, .inr ⟨_, rfl, ?_⟩⟩
        obtain ⟨m, em⟩ : ∃ m : Int, m = (if decide (i ≤ k) = true then 1 else 0) := ⟨_, rfl⟩
        have hm := mm (decide (i ≤ k))
        rw [← em] at hm
        refine ⟨n, m, rfl, (by rw [em]), .inr ⟨by omega, by omega⟩, _, _, rfl, rfl, ?_⟩
        have e : gof false i n k = some (k - n * m) := by
          rw [e0, em]
          by_cases h : k < i
          · rw [if_pos h, decide_eq_false (by omega : ¬ i ≤ k)]
            simp
          · rw [if_neg h, if_pos (by omega : i + n ≤ k), decide_eq_true (by omega : i ≤ k)]
            simp
        rw [e] at q
        exact q
      refine ⟨_, rfl, _, rfl, _, _, rfl, rfl, _, rfl, ?_⟩
      refine ite2 (fun c => ?_) (fun c => ?_)
      · have c' : i ≤ k := of_decide_eq_true c
        refine ⟨_, rfl, _, rfl, _, _, rfl, rfl, _, _, rfl, rfl, _, rfl, ?_⟩
        refine ite2 (fun c2 => ?_) (fun c2 => ?_)
        · have c2' : k < i + n := of_decide_eq_true c2
          rw [e0, if_neg (by omega), if_neg (by omega)] at q
          exact q
        · have c2' : ¬ k < i + n := fun z => c2 (decide_eq_true z)
          exact outp (fun y => c2' y.2)
      · have c' : ¬ i ≤ k := fun z => c (decide_eq_true z)
        refine ⟨_, rfl, ?_⟩
        refine ifF (by simp) ?_
        exact outp (fun y => c' y.1)
abbrev s_z_on : Stmt := top 26
theorem sc_z_on : FnScope ["_law_z_here", "_law_way", "_law_at", "_law_many", "_law_made", "_law_word", "_law_k"] ["_law_z_here", "_law_way", "_law_at", "_law_many"] (defScope s_z_on) := ⟨rfl, rfl, rfl, by decide +kernel, rfl, by decide +kernel, by decide +kernel⟩
theorem ok_z_on (F : Fun K "_law_z_on" "_law_z_on" s_z_on f fd) (T : Tx K mg C cN cP cM cS cF tG tM tQ tR) (D_z : Dn P w K mg base CX0 1 "_law_z" ["_law_many", "_law_usual"] spZnew) (D_go_on : Dn P w K mg base CX0 1 "_law_go_on" ["_law_way", "_law_at", "_law_many", "_law_k"] spGo) : FnOk P w K mg base CX0 2 f fd ["_law_z_here", "_law_way", "_law_at", "_law_many"] spZon := by
  refine F.ok sc_z_on (fun vs H Q E h => ?_) (fun cdv A outer s H vs Q E hr h => ?_)
  · obtain ⟨a, o, g, z, put, i, n, rfl, _⟩ := h
    rfl
  · obtain ⟨a, o, g, z, put, i, n, rfl, S, w, hn, m0, m1, k⟩ := h
    have ncp : ¬ (V.str "cut" = V.str "put") := fun e => by
      have e' : ("cut" : Str) = "put" := by injection e
      exact absurd e' (by decide +kernel)
    have hu := hu_of hr
    refine ⟨_, (C8.pss_cut (ps_set (i := 4) sc_z_on.nd rfl (.inl rfl) (pe_callD D_z (hr.mono (by omega)) (by rfl) pass0 (pa_cons (pe_op op_add (pe_dget hu (pv 0) pe_str (fun _ _ => rfl)) (pe_ifExp (pt_cmpR op_eq (pv 1) pe_str (nomark _)) (pv 3) (pe_op op_sub pe_int (pv 3)))) (pa_cons (pe_dget hu (pv 0) pe_str (fun _ _ => rfl)) pa_nil))))
      (C8.pss_cut (ps_for PassesOwn.never rfl (pi_tup (pe_tup (pa_cons pe_str (pa_cons pe_str pa_nil)))) (pg_name (i := 5) sc_z_on.nd rfl (.inl rfl))
        (pss_one (ps_lock (ps_for PassesOwn.never rfl (pi_keys (pe_dget hu (pv 0) (pv 5) (fun _ _ => rfl))) (pg_name (i := 6) sc_z_on.nd rfl (.inl rfl))
          (pss_one (ps_if (pt_cmpR op_notN (pe_callD D_go_on (hr.mono (by omega)) (by rfl) pass0 (pa_cons (pv 1) (pa_cons (pv 2) (pa_cons (pv 3) (pa_cons (pv 6) pa_nil))))) pe_non (nomark _)) (pss_one (ps_dput hu (pe_dget hu (pv 4) (pv 5) (fun _ _ => rfl)) (pe_callD D_go_on (hr.mono (by omega)) (by rfl) pass0 (pa_cons (pv 1) (pa_cons (pv 2) (pa_cons (pv 3) (pa_cons (pv 6) pa_nil))))) (pe_dget hu (pe_dget hu (pv 0) (pv 5) (fun _ _ => rfl)) (pv 6) (fun _ _ => rfl)) rfl)) pss_nil))))))
      (pss_one (ps_ret (pv 4))))), ?_⟩
    refine ⟨fun σ H' => Same H H' ∧ ∃ a1 o1 g1, σ = [some (.ref a), some (.str (wayS put)), some (.int i), some (.int n), some (.ref a1), none, none] ∧ ZAt H' a1 o1 g1 ⟨(zonM z put i n).many, z.common, [], []⟩ ∧ H a1 = none ∧ H o1 = none ∧ H g1 = none, ?_, ?_⟩
    · refine ⟨_, rfl, _, _, rfl, dg_many S.ha, _, rfl, rfl, _, rfl, ?_⟩
      cases put with
      | true =>
        refine ifT (decide_eq_true rfl) ?_
        exact ⟨_, rfl, _, _, rfl, rfl, _, rfl, _, _, rfl, dg_common S.ha, (zonM z true i n).many, z.common, rfl, ⟨m0, m1⟩, ⟨S.ok.c0, S.ok.c1⟩, fun a1 o1 g1 H1 s1 Z1 na no ng => ⟨s1, a1, o1, g1, rfl, Z1, na, no, ng⟩⟩
      | false =>
        refine ifF (by rw [show decide (V.str (wayS false) = V.str "put") = false from decide_eq_false ncp]; simp) ?_
        exact ⟨_, rfl, _, _, rfl, rfl, _, _, rfl, rfl, _, rfl, _, _, rfl, dg_common S.ha, (zonM z false i n).many, z.common, (by show [V.int (z.many + (0 - n)), _] = [V.int (z.many - n), _]; rw [show z.many + (0 - n) = z.many - n by omega]), ⟨m0, m1⟩, ⟨S.ok.c0, S.ok.c1⟩, fun a1 o1 g1 H1 s1 Z1 na no ng => ⟨s1, a1, o1, g1, rfl, Z1, na, no, ng⟩⟩
    rintro σ H1 ⟨s1, a1, o1, g1, rfl, Z1, na, no, ng⟩
    have S1 := S.same s1
    refine ⟨fun σ H' => Same H H' ∧ (∃ x5 x6, σ = [some (.ref a), some (.str (wayS put)), some (.int i), some (.int n), some (.ref a1), x5, x6]) ∧ ZH H' a1 o1 g1 (zonM z put i n), ?_, ?_⟩
    · refine ⟨(by show 2 ≤ sizeLine; decide), fun t2 n2 => ?_⟩
      have s2 := same_new n2 (.tup [.str "own", .str "gone"])
      have et2 : upd H1 t2 (.tup [.str "own", .str "gone"]) t2 = some (.tup [.str "own", .str "gone"]) := upd_same
      generalize upd H1 t2 (.tup [.str "own", .str "gone"]) = H2 at s2 et2 ⊢
      have Z2 := Z1.same s2
      refine ⟨t2, rfl, ⟨_, SqT.of et2⟩, ?_⟩
      refine for_tup (K := K) (a := t2) (xs := [.str "own", .str "gone"]) (fun j σ H' => (Same H H' ∧ H' t2 = some (.tup [.str "own", .str "gone"])) ∧ (∃ x5 x6, σ = [some (.ref a), some (.str (wayS put)), some (.int i), some (.int n), some (.ref a1), x5, x6]) ∧ H' a1 = some (.dK (zL (zonM z put i n).many z.common o1 g1)) ∧ H' o1 = some (.dK (if j = 0 then [] else mvK (gof put i n) (ownV z.own))) ∧ H' g1 = some (.dK (if j = 2 then mvK (gof put i n) (goneV z.gone) else []))) ⟨⟨s1.trans s2, et2⟩, ⟨_, _, rfl⟩, Z2.ha, Z2.ho, Z2.hg⟩ (fun j σ H' _ q => SqT.of q.1.2) ?_ ?_
      · rintro j y σ H3 hy ⟨⟨s3, et3⟩, ⟨x5, x6, rfl⟩, ha1, ho1, hg1⟩
        have S3 := S.same s3
        have ha3 := S3.ha
        have no_a1 : ∀ b u, H b = some u → b ≠ a1 := fun b u q => ne_of_none q na
        have no_o1 : ∀ b u, H b = some u → b ≠ o1 := fun b u q => ne_of_none q no
        have no_g1 : ∀ b u, H b = some u → b ≠ g1 := fun b u q => ne_of_none q ng
        have ndo : ((ownV z.own).map (·.1)).Nodup := by
          have e : (ownV z.own).map (·.1) = z.own.map (·.1) := by unfold ownV; rw [List.map_map]; rfl
          rw [e]
          exact w.nd
        have ndg : ((goneV z.gone).map (·.1)).Nodup := by
          have e : (goneV z.gone).map (·.1) = z.gone := by unfold goneV; rw [List.map_map]; exact List.map_id _
          rw [e]
          exact w.ng
        have t2o1 : t2 ≠ o1 := ne_of et3 ho1 (by intro e; cases e)
        have t2g1 : t2 ≠ g1 := ne_of et3 hg1 (by intro e; cases e)
        have : j = 0 ∨ j = 1 := by
          rcases j with _ | _ | j
          · exact .inl rfl
          · exact .inr rfl
          · simp at hy
        rcases this with rfl | rfl
        · have hy' : V.str "own" = y := Option.some.inj hy
          subst hy'
          have hs : H3 o = some (.dK (rawK (ownV z.own))) := by rw [raw_own]; exact S3.ho
          have hd3 : H3 o1 = some (.dK []) := ho1
          have ns : a ≠ o := S.ao
          have ns1 : a1 ≠ o := (no_a1 _ _ S.ho).symm
          have nsd : o1 ≠ o := (no_o1 _ _ S.ho).symm
          have nad : a ≠ o1 := no_o1 _ _ S.ha
          have na1d : a1 ≠ o1 := Z1.ao
          have lenKV : (ownV z.own).length ≤ 1000 := by unfold ownV; rw [List.length_map]; exact S.ok.l1
          refine ⟨o, _, hs, trivial, fun od => ?_⟩
          obtain ⟨HL, eL⟩ : ∃ HL, HL = upd H3 o (.frz od (.dK (rawK (ownV z.own)))) := ⟨_, rfl⟩
          have hLs : HL o = some (.frz od (.dK (rawK (ownV z.own)))) := by rw [eL]; exact upd_same
          have hLa : HL a = some (.dK (zL z.many z.common o g)) := by rw [eL, upd_ne ns]; exact ha3
          have hLa1 : HL a1 = some (.dK (zL (zonM z put i n).many z.common o1 g1)) := by rw [eL, upd_ne ns1]; exact ha1
          have hLd : HL o1 = some (.dK []) := by rw [eL, upd_ne nsd]; exact hd3
          rw [← eL]
          refine ⟨_, rfl, _, rfl, _, _, rfl, dg_own hLa, o, od, rfl, .inl ⟨rawK (ownV z.own), hLs, ?_⟩⟩
          refine for_it walk_keys (fun j σ H' => Frm o1 HL H' ∧ (∃ x6, σ = [some (.ref a), some (.str (wayS put)), some (.int i), some (.int n), some (.ref a1), some (.str "own"), x6]) ∧ H' o1 = some (.dK (mvK (gof put i n) (((ownV z.own)).take j)))) ⟨fun b u _ q => q, ⟨_, rfl⟩, hLd⟩ (fun j σ H' _ q => q.1 _ _ nsd.symm hLs) ?_ ?_
          · rintro j y σ H4 _ hj ⟨f4, ⟨x6, rfl⟩, h4⟩ ⟨eH, kk, vv, ekv, rfl⟩
            rw [eH]
            obtain ⟨e, ee, ek, ev⟩ := rawK_at ekv
            subst ek
            have val := rawK_val ndo (List.mem_of_getElem? ee)
            have kl : (mvK (gof put i n) (((ownV z.own)).take j)).length < sizeLine := Nat.lt_of_le_of_lt (Nat.le_trans (List.length_filterMap_le _ _) (Nat.le_trans (List.length_take_le' _ _) lenKV)) (show 1000 < sizeLine by decide)
            refine ⟨_, rfl, _, rfl, _, rfl, _, rfl, put, i, n, e.1, rfl, rfl, _, rfl, ?_⟩
            cases q : gof put i n e.1 with
            | none =>
              refine ifF (by simp) ?_
              refine ⟨f4, ⟨_, rfl⟩, ?_⟩
              rw [mvK_snoc ee, q, List.append_nil]
              exact h4
            | some k =>
              refine ifT (by simp) ?_
              refine ⟨_, rfl, _, rfl, _, _, rfl, dg_own (f4 _ _ nad hLa), _, rfl, _, _, rfl, .inl ⟨rawK (ownV z.own), Sum.inl e.1, .inr ⟨od, f4 _ _ nsd.symm hLs⟩, rfl, val.symm⟩, ?_⟩
              refine ⟨_, rfl, _, rfl, _, _, rfl, dg_own (f4 _ _ na1d hLa1), ?_⟩
              refine ⟨_, rfl, _, rfl, _, rfl, _, rfl, put, i, n, e.1, rfl, ?_⟩
              rw [q]
              refine ⟨o1, _, rfl, .inl ⟨_, Sum.inl k, h4, rfl, kl, rfl⟩, ?_⟩
              rw [mvK_put (inj_gof hn) ndo ee q]
              exact ⟨f4.trans (Frm.upd _), ⟨_, rfl⟩, upd_same⟩
          rintro σ H4 ⟨f4, ⟨x6, rfl⟩, h4⟩
          have lr : (rawK (ownV z.own)).length = ((ownV z.own)).length := by unfold rawK; rw [List.length_map]
          rw [lr, List.take_length] at h4
          refine ⟨f4 _ _ nsd.symm hLs, ?_⟩
          have f5 : Frm o1 H3 (upd H4 o (.dK (rawK (ownV z.own)))) := fun b u nb q => by
            by_cases hb : b = o
            · subst hb
              rw [hs] at q
              cases q
              exact upd_same
            · rw [upd_ne hb]
              refine f4 _ _ nb ?_
              rw [eL, upd_ne hb]
              exact q
          have h5 : upd H4 o (.dK (rawK (ownV z.own))) o1 = some (.dK (mvK (gof put i n) (ownV z.own))) := by rw [upd_ne nsd]; exact h4
          exact ⟨⟨fun b u q => f5 b u (no_o1 _ _ q) (s3 _ _ q), f5 _ _ t2o1 et3⟩, ⟨_, _, rfl⟩, f5 _ _ na1d ha1, h5, f5 _ _ Z1.og.symm hg1⟩
        · have hy' : V.str "gone" = y := Option.some.inj hy
          subst hy'
          have hs : H3 g = some (.dK (rawK (goneV z.gone))) := by rw [raw_gone]; exact S3.hg
          have hd3 : H3 g1 = some (.dK []) := hg1
          have ns : a ≠ g := S.ag
          have ns1 : a1 ≠ g := (no_a1 _ _ S.hg).symm
          have nsd : g1 ≠ g := (no_g1 _ _ S.hg).symm
          have nad : a ≠ g1 := no_g1 _ _ S.ha
          have na1d : a1 ≠ g1 := Z1.ag
          have lenKV : (goneV z.gone).length ≤ 1000 := by unfold goneV; rw [List.length_map]; exact S.ok.l2
          refine ⟨g, _, hs, trivial, fun od => ?_⟩
          obtain ⟨HL, eL⟩ : ∃ HL, HL = upd H3 g (.frz od (.dK (rawK (goneV z.gone)))) := ⟨_, rfl⟩
          have hLs : HL g = some (.frz od (.dK (rawK (goneV z.gone)))) := by rw [eL]; exact upd_same
          have hLa : HL a = some (.dK (zL z.many z.common o g)) := by rw [eL, upd_ne ns]; exact ha3
          have hLa1 : HL a1 = some (.dK (zL (zonM z put i n).many z.common o1 g1)) := by rw [eL, upd_ne ns1]; exact ha1
          have hLd : HL g1 = some (.dK []) := by rw [eL, upd_ne nsd]; exact hd3
          rw [← eL]
          refine ⟨_, rfl, _, rfl, _, _, rfl, dg_gone hLa, g, od, rfl, .inl ⟨rawK (goneV z.gone), hLs, ?_⟩⟩
          refine for_it walk_keys (fun j σ H' => Frm g1 HL H' ∧ (∃ x6, σ = [some (.ref a), some (.str (wayS put)), some (.int i), some (.int n), some (.ref a1), some (.str "gone"), x6]) ∧ H' g1 = some (.dK (mvK (gof put i n) (((goneV z.gone)).take j)))) ⟨fun b u _ q => q, ⟨_, rfl⟩, hLd⟩ (fun j σ H' _ q => q.1 _ _ nsd.symm hLs) ?_ ?_
          · rintro j y σ H4 _ hj ⟨f4, ⟨x6, rfl⟩, h4⟩ ⟨eH, kk, vv, ekv, rfl⟩
            rw [eH]
            obtain ⟨e, ee, ek, ev⟩ := rawK_at ekv
            subst ek
            have val := rawK_val ndg (List.mem_of_getElem? ee)
            have kl : (mvK (gof put i n) (((goneV z.gone)).take j)).length < sizeLine := Nat.lt_of_le_of_lt (Nat.le_trans (List.length_filterMap_le _ _) (Nat.le_trans (List.length_take_le' _ _) lenKV)) (show 1000 < sizeLine by decide)
            refine ⟨_, rfl, _, rfl, _, rfl, _, rfl, put, i, n, e.1, rfl, rfl, _, rfl, ?_⟩
            cases q : gof put i n e.1 with
            | none =>
              refine ifF (by simp) ?_
              refine ⟨f4, ⟨_, rfl⟩, ?_⟩
              rw [mvK_snoc ee, q, List.append_nil]
              exact h4
            | some k =>
              refine ifT (by simp) ?_
              refine ⟨_, rfl, _, rfl, _, _, rfl, dg_gone (f4 _ _ nad hLa), _, rfl, _, _, rfl, .inl ⟨rawK (goneV z.gone), Sum.inl e.1, .inr ⟨od, f4 _ _ nsd.symm hLs⟩, rfl, val.symm⟩, ?_⟩
              refine ⟨_, rfl, _, rfl, _, _, rfl, dg_gone (f4 _ _ na1d hLa1), ?_⟩
              refine ⟨_, rfl, _, rfl, _, rfl, _, rfl, put, i, n, e.1, rfl, ?_⟩
              rw [q]
              refine ⟨g1, _, rfl, .inl ⟨_, Sum.inl k, h4, rfl, kl, rfl⟩, ?_⟩
              rw [mvK_put (inj_gof hn) ndg ee q]
              exact ⟨f4.trans (Frm.upd _), ⟨_, rfl⟩, upd_same⟩
          rintro σ H4 ⟨f4, ⟨x6, rfl⟩, h4⟩
          have lr : (rawK (goneV z.gone)).length = ((goneV z.gone)).length := by unfold rawK; rw [List.length_map]
          rw [lr, List.take_length] at h4
          refine ⟨f4 _ _ nsd.symm hLs, ?_⟩
          have f5 : Frm g1 H3 (upd H4 g (.dK (rawK (goneV z.gone)))) := fun b u nb q => by
            by_cases hb : b = g
            · subst hb
              rw [hs] at q
              cases q
              exact upd_same
            · rw [upd_ne hb]
              refine f4 _ _ nb ?_
              rw [eL, upd_ne hb]
              exact q
          have h5 : upd H4 g (.dK (rawK (goneV z.gone))) g1 = some (.dK (mvK (gof put i n) (goneV z.gone))) := by rw [upd_ne nsd]; exact h4
          exact ⟨⟨fun b u q => f5 b u (no_g1 _ _ q) (s3 _ _ q), f5 _ _ t2g1 et3⟩, ⟨_, _, rfl⟩, f5 _ _ na1d ha1, f5 _ _ Z1.og ho1, h5⟩
      · rintro σ H3 ⟨⟨s3, et3⟩, ⟨x5, x6, rfl⟩, ha1, ho1, hg1⟩
        refine ⟨s3, ⟨_, _, rfl⟩, ⟨ha1, ?_, ?_, Z1.ao, Z1.ag, Z1.og⟩⟩
        · rw [show ownK (zonM z put i n).own = mvK (gof put i n) (ownV z.own) from (mv_own _ _).symm]
          exact ho1
        · rw [show goneK (zonM z put i n).gone = mvK (gof put i n) (goneV z.gone) from (mv_gone _ _).symm]
          exact hg1
    rintro σ H3 ⟨s3, ⟨x5, x6, rfl⟩, ZF⟩
    exact ⟨_, rfl, k a1 o1 g1 H3 s3 ZF na no ng⟩
abbrev s_z_put : Stmt := top 27
theorem sc_z_put : FnScope ["_law_z_here", "_law_at", "_law_many"] ["_law_z_here", "_law_at", "_law_many"] (defScope s_z_put) := ⟨rfl, rfl, rfl, by decide +kernel, rfl, by decide +kernel, by decide +kernel⟩
theorem ok_z_put (F : Fun K "_law_z_put" "_law_z_put" s_z_put f fd) (T : Tx K mg C cN cP cM cS cF tG tM tQ tR) (D_z_on : Dn P w K mg base CX0 2 "_law_z_on" ["_law_z_here", "_law_way", "_law_at", "_law_many"] spZon) : FnOk P w K mg base CX0 3 f fd ["_law_z_here", "_law_at", "_law_many"] (spZmv true) := by
  refine F.ok sc_z_put (fun vs H Q E h => ?_) (fun cdv A outer s H vs Q E hr h => ?_)
  · obtain ⟨a, o, g, z, i, n, rfl, _⟩ := h
    rfl
  · obtain ⟨a, o, g, z, i, n, rfl, S, w, hn, m0, m1, k⟩ := h
    refine ⟨_, (pss_one (ps_ret (pe_callD D_z_on (hr.mono (by omega)) (by rfl) pass0 (pa_cons (pv 0) (pa_cons pe_str (pa_cons (pv 1) (pa_cons (pv 2) pa_nil))))))), ?_⟩
    exact ⟨_, rfl, _, rfl, _, rfl, a, o, g, z, true, i, n, rfl, S, w, hn, m0, m1, k⟩
abbrev s_z_cut : Stmt := top 28
theorem sc_z_cut : FnScope ["_law_z_here", "_law_at", "_law_many"] ["_law_z_here", "_law_at", "_law_many"] (defScope s_z_cut) := ⟨rfl, rfl, rfl, by decide +kernel, rfl, by decide +kernel, by decide +kernel⟩
theorem ok_z_cut (F : Fun K "_law_z_cut" "_law_z_cut" s_z_cut f fd) (T : Tx K mg C cN cP cM cS cF tG tM tQ tR) (D_z_on : Dn P w K mg base CX0 2 "_law_z_on" ["_law_z_here", "_law_way", "_law_at", "_law_many"] spZon) : FnOk P w K mg base CX0 3 f fd ["_law_z_here", "_law_at", "_law_many"] (spZmv false) := by
  refine F.ok sc_z_cut (fun vs H Q E h => ?_) (fun cdv A outer s H vs Q E hr h => ?_)
  · obtain ⟨a, o, g, z, i, n, rfl, _⟩ := h
    rfl
  · obtain ⟨a, o, g, z, i, n, rfl, S, w, hn, m0, m1, k⟩ := h
    refine ⟨_, (pss_one (ps_ret (pe_callD D_z_on (hr.mono (by omega)) (by rfl) pass0 (pa_cons (pv 0) (pa_cons pe_str (pa_cons (pv 1) (pa_cons (pv 2) pa_nil))))))), ?_⟩
    exact ⟨_, rfl, _, rfl, _, rfl, a, o, g, z, false, i, n, rfl, S, w, hn, m0, m1, k⟩
abbrev s_z_at : Stmt := top 34
theorem sc_z_at : FnScope ["_law_z_here", "_law_point", "_law_low", "_law_top", "_law_turn", "_law_mid"] ["_law_z_here", "_law_point"] (defScope s_z_at) := ⟨rfl, rfl, rfl, by decide +kernel, rfl, by decide +kernel, by decide +kernel⟩
theorem ok_z_at (F : Fun K "_law_z_at" "_law_z_at" s_z_at f fd) (T : Tx K mg C cN cP cM cS cF tG tM tQ tR) (D_z_ahead : Dn P w K mg base CX0 2 "_law_z_ahead" ["_law_z_here", "_law_k"] spZahead) : FnOk P w K mg base CX0 3 f fd ["_law_z_here", "_law_point"] spZat := by
  refine F.ok sc_z_at (fun vs H Q E h => ?_) (fun cdv A outer s H vs Q E hr h => ?_)
  · obtain ⟨a, o, g, s, z, pt, rfl, _⟩ := h
    rfl
  · obtain ⟨a, o, g, s, z, pt, rfl, S, R, W, p0, p1, m1, k⟩ := h
    have hu := hu_of hr
    refine ⟨_, (pss_cons (ps_par (i := 2) (j := 3) (by rfl) sc_z_at.nd rfl rfl (by decide) rfl rfl (pa_cons pe_int (pa_cons (pe_dget hu (pv 0) pe_str (fun _ _ => rfl)) pa_nil)) (by rfl))
      (pss_cons (ps_for PassesOwn.never rfl (pi_range1 (by rfl) T.no_range (pa_cons pe_int pa_nil)) (pg_name (i := 4) sc_z_at.nd rfl (.inl rfl))
        (pss_cons (ps_set (i := 5) sc_z_at.nd rfl (.inl rfl) (pe_op op_fdiv (pe_op op_add (pv 2) (pv 3)) pe_int))
        (pss_one (ps_if (PW.pt (pw_and (pt_cmpR op_lt (pe_op op_add (pv 2) pe_int) (pv 3) (nomark _)) (pw_and1 (pt_cmpR op_le (pe_callD D_z_ahead (hr.mono (by omega)) (by rfl) pass0 (pa_cons (pv 0) (pa_cons (pv 5) pa_nil))) (pv 1) (nomark _))))) (pss_one (ps_set (i := 2) sc_z_at.nd rfl (.inl rfl) (pv 5))) (pss_one (ps_if (pt_cmpR op_lt (pe_op op_add (pv 2) pe_int) (pv 3) (nomark _)) (pss_one (ps_set (i := 3) sc_z_at.nd rfl (.inl rfl) (pv 5))) pss_nil))))))
      (pss_one (ps_ret (pe_tup (pa_cons (pv 2) (pa_cons (pe_op op_sub (pv 1) (pe_callD D_z_ahead (hr.mono (by omega)) (by rfl) pass0 (pa_cons (pv 0) (pa_cons (pv 2) pa_nil)))) pa_nil))))))), ?_⟩
    have m0 := W.m0
    refine ⟨_, rfl, _, _, rfl, dg_many S.ha, _, _, rfl, ?_⟩
    refine ⟨_, rfl, by decide, by decide, ?_⟩
    refine for_range (lo := 0) (n := 21) (fun j σ H' => Same H H' ∧ ∃ low top x4 x5, σ = [some (.ref a), some (.int pt), some (.int low), some (.int top), x4, x5] ∧ 0 ≤ low ∧ low < top ∧ top ≤ s.many ∧ ahM s low ≤ pt ∧ pt < ahM s top ∧ top - low ≤ ((2 ^ (20 - j) : Nat) : Int)) ⟨Same.refl H, 0, z.many, _, _, rfl, by decide, by rw [← R.many]; omega, by rw [R.many]; exact Int.le_refl _, by rw [ah_zero W]; exact p0, by rw [← R.many]; exact p1, by rw [← R.many]; show s.many - 0 ≤ 1048576; omega⟩ ?_ ?_
    · rintro j σ H2 hj ⟨s2, low, top, x4, x5, rfl, l0, lt, tm, a1, a2, sz⟩
      obtain ⟨ph, p1'⟩ := pow_half j
      generalize 2 ^ (20 - (j + 1)) = P2 at ph p1' ⊢
      generalize 2 ^ (20 - j) = P1 at ph sz
      refine ⟨_, rfl, _, rfl, _, _, rfl, rfl, _, _, rfl, rfl, ⟨by decide, by decide⟩, ?_⟩
      obtain ⟨mid, emid⟩ : ∃ mid : Int, mid = (low + top) / 2 := ⟨_, rfl⟩
      show gName 5 (V.int ((low + top) / 2)) _ _ _
      rw [← emid]
      refine ⟨_, rfl, _, _, rfl, rfl, _, rfl, _, _, rfl, rfl, _, rfl, ?_⟩
      refine ite2 (fun c => ?_) (fun c => ?_)
      · have c' : low + 1 < top := of_decide_eq_true c
        refine ⟨_, rfl, _, rfl, a, o, g, z, mid, rfl, S.same s2, fun H3 s3 => ?_⟩
        refine ⟨_, rfl, _, _, rfl, rfl, _, rfl, ?_⟩
        rw [← R.ah mid]
        refine ite2 (fun c2 => ?_) (fun c2 => ?_)
        · have c2' : ahM s mid ≤ pt := of_decide_eq_true c2
          exact ⟨_, rfl, s2.trans s3, mid, top, _, _, rfl, by omega, by omega, tm, c2', a2, by omega⟩
        · have c2' : ¬ ahM s mid ≤ pt := fun q => c2 (decide_eq_true q)
          refine ⟨_, rfl, _, _, rfl, rfl, _, rfl, _, _, rfl, rfl, _, rfl, ?_⟩
          refine ifT c ?_
          exact ⟨_, rfl, s2.trans s3, low, mid, _, _, rfl, l0, by omega, by omega, a1, by omega, by omega⟩
      · have c' : ¬ low + 1 < top := fun q => c (decide_eq_true q)
        refine ifF (by simp) ?_
        refine ⟨_, rfl, _, _, rfl, rfl, _, rfl, _, _, rfl, rfl, _, rfl, ?_⟩
        refine ifF c ?_
        exact ⟨s2, low, top, _, _, rfl, l0, lt, tm, a1, a2, by omega⟩
    rintro σ H2 ⟨s2, low, top, x4, x5, rfl, l0, lt, tm, a1, a2, sz⟩
    have sz' : top - low ≤ 1 := sz
    have et : top = low + 1 := by omega
    rw [et, ah_succ W] at a2
    refine ⟨_, rfl, _, rfl, _, rfl, _, rfl, a, o, g, z, low, rfl, S.same s2, fun H3 s3 => ?_⟩
    refine ⟨_, _, rfl, rfl, (by show 2 ≤ sizeLine; decide), fun t ht => ?_⟩
    refine k low t _ ⟨l0, by omega⟩ a1 a2 (s2.trans (s3.trans (same_new ht _))) ?_
    rw [upd_same, R.ah low]
end
end K04

set_option Elab.async false
set_option linter.all false
set_option maxRecDepth 100000
set_option maxHeartbeats 4000000
namespace K04
open PySem L2 Gs
section
variable {P : Program} {w : World} {K : PySem.W.Frag} {mg : Str → Option Value} {base : Heap} {f : Addr} {fd : FuncData} {C cN cP cM cS cF : Addr} {tG tM tQ tR : Tok}
abbrev s_law : Stmt := top 35
theorem sc_law : FnScope ["_law_script", "_law_draw", "_law_z_here", "_law_sizes", "_law_places", "_law_turn", "_law_way", "_law_k", "_law_size", "_law_many", "_law_end", "_law_point"] ["_law_script"] (defScope s_law) := ⟨rfl, rfl, rfl, by decide +kernel, rfl, by decide +kernel, by decide +kernel⟩
theorem ok_law (F : Fun K "law" "law" s_law f fd) (T : Tx K mg C cN cP cM cS cF tG tM tQ tR) (D_begin : Dn P w K mg base CX0 1 "_law_begin" ["_law_script"] (spBegin K)) (D_pick : Dn P w K mg base CX0 1 "_law_pick" ["_law_draw", "_law_many"] spPick) (D_same : Dn P w K mg base CX0 3 "_law_same" ["_law_found", "_law_due"] (spSame K 3))
    (D_z : Dn P w K mg base CX0 1 "_law_z" ["_law_many", "_law_usual"] spZnew) (D_z_ahead : Dn P w K mg base CX0 2 "_law_z_ahead" ["_law_z_here", "_law_k"] spZahead) (D_z_at : Dn P w K mg base CX0 3 "_law_z_at" ["_law_z_here", "_law_point"] spZat)
    (D_z_stands : Dn P w K mg base CX0 6 "_law_z_stands" ["_law_sizes", "_law_z_here", "_law_some"] (spZst K C)) (D_z_put : Dn P w K mg base CX0 3 "_law_z_put" ["_law_z_here", "_law_at", "_law_many"] (spZmv true)) (D_z_cut : Dn P w K mg base CX0 3 "_law_z_cut" ["_law_z_here", "_law_at", "_law_many"] (spZmv false))
    (D_z_set : Dn P w K mg base CX0 2 "_law_z_set" ["_law_z_here", "_law_k", "_law_size"] spZset) (D_z_hide : Dn P w K mg base CX0 2 "_law_z_hide" ["_law_z_here", "_law_k", "_law_hidden"] spZhide) (D_Sizes : Cn P w K mg base (L2.CX P w) 2 C "Sizes" (spInit C cM cS))
    (M_size : Mn P w K mg base (L2.CX P w) 3 C "size" ["self", "number"] (spSize C cN)) (M_ahead : Mn P w K mg base (L2.CX P w) 4 C "ahead" ["self", "number"] (spAhead C cN)) (M_at : Mn P w K mg base (L2.CX P w) 6 C "at" ["self", "point"] (spAt C cP)) (M_give : Mn P w K mg base (L2.CX P w) 4 C "give" ["self", "number", "size"] (spGive C cN cS cF)) (M_hide : Mn P w K mg base (L2.CX P w) 4 C "hide" ["self", "number"] (spTo C cN cF gHide))
    (M_put : Mn P w K mg base (L2.CX P w) 2 C "put" ["self", "number", "many"] (spPut C cN cM)) (M_cut : Mn P w K mg base (L2.CX P w) 2 C "cut" ["self", "number", "many"] (spCut C cN cM)) : FnOk P w K mg base CX0 7 f fd ["_law_script"] (spLaw K) := by
  refine F.ok sc_law (fun vs H Q E h => ?_) (fun cdv A outer s H vs Q E hr h => ?_)
  · obtain ⟨a, ns, rfl, _⟩ := h
    rfl
  · obtain ⟨scr, ns, rfl, hS, h63, k⟩ := h
    have hu := hu_of hr
    refine ⟨_, (pss_cons (ps_set (i := 1) sc_law.nd rfl (.inl rfl) (pe_callD D_begin (hr.mono (by omega)) (by rfl) pass0 (pa_cons (pv 0) pa_nil)))
      (pss_cons (ps_set (i := 2) sc_law.nd rfl (.inr rfl) (pe_callD D_z (hr.mono (by omega)) (by rfl) pass0 (pa_cons (pe_op op_add pe_int (pe_callD D_pick (hr.mono (by omega)) (by rfl) pass0 (pa_cons (pv 1) (pa_cons pe_int pa_nil)))) (pa_cons (pe_op op_add pe_int (pe_callD D_pick (hr.mono (by omega)) (by rfl) pass0 (pa_cons (pv 1) (pa_cons pe_int pa_nil)))) pa_nil))))
      (pss_cons (ps_set (i := 3) sc_law.nd rfl (.inl rfl) (pe_mkD D_Sizes (hr.mono (by omega)) (by rfl) passL (pa_cons (pe_dget hu (pv 2) pe_str (fun _ _ => rfl)) pa_nil) (pk_cons (pe_dget hu (pv 2) pe_str (fun _ _ => rfl)) pk_nil)))
      (pss_cons (ps_set (i := 4) sc_law.nd rfl (.inl rfl) (pe_lst (pa_cons pe_int (pa_cons (pe_op op_sub (pe_dget hu (pv 2) pe_str (fun _ _ => rfl)) pe_int) pa_nil))))
      (pss_cons (ps_for PassesOwn.never rfl (pi_range1 (by rfl) T.no_range (pa_cons (pe_callD D_pick (hr.mono (by omega)) (by rfl) pass0 (pa_cons (pv 1) (pa_cons pe_int pa_nil))) pa_nil)) (pg_name (i := 5) sc_law.nd rfl (.inl rfl))
        (pss_cons (ps_set (i := 6) sc_law.nd rfl (.inl rfl) (pe_callD D_pick (hr.mono (by omega)) (by rfl) pass0 (pa_cons (pv 1) (pa_cons pe_int pa_nil))))
        (pss_cons (ps_set (i := 7) sc_law.nd rfl (.inl rfl) (pe_ix ix_tup (pe_tup (pa_cons (pe_callD D_pick (hr.mono (by omega)) (by rfl) pass0 (pa_cons (pv 1) (pa_cons (pe_dget hu (pv 2) pe_str (fun _ _ => rfl)) pa_nil))) (pa_cons (pe_callB (call_min2 rfl) (by rfl) T.no_min (by decide +kernel) (pa_cons (pe_op op_sub (pe_dget hu (pv 2) pe_str (fun _ _ => rfl)) pe_int) (pa_cons (pe_op op_add (pe_ix ix_list (pv 4) (pe_un un_neg pe_int) (fun _ _ => rfl)) (pe_callD D_pick (hr.mono (by omega)) (by rfl) pass0 (pa_cons (pv 1) (pa_cons pe_int pa_nil)))) pa_nil))) pa_nil))) (pe_callD D_pick (hr.mono (by omega)) (by rfl) pass0 (pa_cons (pv 1) (pa_cons pe_int pa_nil))) (fun _ _ => rfl)))
        (pss_cons (ps_expr (pe_bm PySem.F.plainAttrs_list PySem.F.slot_list_append PySem.F.type_list_append mt_append (pv 4) (pa_cons (pv 7) pa_nil)))
        (pss_cons (ps_set (i := 8) sc_law.nd rfl (.inl rfl) (pe_op op_add pe_int (pe_callD D_pick (hr.mono (by omega)) (by rfl) pass0 (pa_cons (pv 1) (pa_cons pe_int pa_nil)))))
        (pss_cons (ps_set (i := 9) sc_law.nd rfl (.inl rfl) (pe_callB (call_min2 rfl) (by rfl) T.no_min (by decide +kernel) (pa_cons (pe_op op_sub (pe_dget hu (pv 2) pe_str (fun _ _ => rfl)) pe_int) (pa_cons (pe_op op_add pe_int (pe_callD D_pick (hr.mono (by omega)) (by rfl) pass0 (pa_cons (pv 1) (pa_cons pe_int pa_nil)))) pa_nil))))
        (pss_one (ps_if (pt_cmpR op_lt (pv 6) pe_int (nomark _)) (pss_cons (ps_expr (pe_methD T.cl M_give (hr.mono (by omega)) passL (pv 3) (pa_cons (pv 7) (pa_cons (pv 8) pa_nil))))
          (pss_one (ps_set (i := 2) sc_law.nd rfl (.inr rfl) (pe_callD D_z_set (hr.mono (by omega)) (by rfl) pass0 (pa_cons (pv 2) (pa_cons (pv 7) (pa_cons (pv 8) pa_nil))))))) (pss_one (ps_if (pt_cmpR op_eq (pv 6) pe_int (nomark _)) (pss_cons (ps_expr (pe_methD T.cl M_hide (hr.mono (by omega)) passL (pv 3) (pa_cons (pv 7) pa_nil)))
            (pss_one (ps_set (i := 2) sc_law.nd rfl (.inr rfl) (pe_callD D_z_hide (hr.mono (by omega)) (by rfl) pass0 (pa_cons (pv 2) (pa_cons (pv 7) (pa_cons pe_bl pa_nil))))))) (pss_one (ps_if (PW.pt (pw_and (pt_cmpR op_eq (pv 6) pe_int (nomark _)) (pw_and (pt_cmpR op_gt (pv 9) pe_int (nomark _)) (pw_and1 (pt_cmpR op_lt (pe_dget hu (pv 2) pe_str (fun _ _ => rfl)) pe_int (nomark _)))))) (pss_cons (ps_expr (pe_methD T.cl M_put (hr.mono (by omega)) passL (pv 3) (pa_cons (pv 7) (pa_cons (pv 9) pa_nil))))
              (pss_one (ps_set (i := 2) sc_law.nd rfl (.inr rfl) (pe_callD D_z_put (hr.mono (by omega)) (by rfl) pass0 (pa_cons (pv 2) (pa_cons (pv 7) (pa_cons (pv 9) pa_nil))))))) (pss_one (ps_if (PW.pt (pw_and (pt_cmpR op_eq (pv 6) pe_int (nomark _)) (pw_and (pt_cmpR op_gt (pv 9) pe_int (nomark _)) (pw_and1 (pt_cmpR op_le (pe_op op_add (pv 7) (pv 9)) (pe_dget hu (pv 2) pe_str (fun _ _ => rfl)) (nomark _)))))) (pss_cons (ps_expr (pe_methD T.cl M_cut (hr.mono (by omega)) passL (pv 3) (pa_cons (pv 7) (pa_cons (pv 9) pa_nil))))
                (pss_one (ps_set (i := 2) sc_law.nd rfl (.inr rfl) (pe_callD D_z_cut (hr.mono (by omega)) (by rfl) pass0 (pa_cons (pv 2) (pa_cons (pv 7) (pa_cons (pv 9) pa_nil))))))) pss_nil))))))))))))))
      (pss_cons (ps_set (i := 10) sc_law.nd rfl (.inl rfl) (pe_callD D_z_ahead (hr.mono (by omega)) (by rfl) pass0 (pa_cons (pv 2) (pa_cons (pe_dget hu (pv 2) pe_str (fun _ _ => rfl)) pa_nil))))
      (pss_cons (ps_setLc (i := 4) (own := [("_law_k", 7)]) (g := gName 7) rfl sc_law.nd rfl rfl (sw_true rfl rfl rfl (by decide +kernel)) (pi_list (pv 4)) (blkOk_by (N := ["_law_script", "_law_draw", "_law_z_here", "_law_sizes", "_law_places", "_law_turn", "_law_way", "_law_k", "_law_size", "_law_many", "_law_end", "_law_point"]) (sc := defScope s_law) (by decide +kernel)) (fun _ _ _ _ _ => (pg_name (i := 7) sc_law.nd rfl (Or.inl rfl))) (fun _ _ _ _ _ => (pts_one (pt_cmpR op_lt (pv 7) (pe_op op_sub (pe_dget hu (pv 2) pe_str (fun _ _ => rfl)) pe_int) (nomark _)))) (fun _ _ _ _ _ => (pv 7)))
      (pss_cons (ps_if (pt_not (pt_val (pe_callD D_z_stands (hr.mono (by omega)) (by rfl) pass0 (pa_cons (pv 3) (pa_cons (pv 2) (pa_cons (pv 4) pa_nil)))))) (pss_one (ps_ret pe_bl)) pss_nil)
      (pss_cons (ps_for PassesOwn.never rfl (pi_list (pv 4)) (pg_name (i := 7) sc_law.nd rfl (.inl rfl))
        (pss_cons (ps_if (pt_cmpR op_ne (pe_op op_sub (pe_methD T.cl M_ahead (hr.mono (by omega)) passL (pv 3) (pa_cons (pe_op op_add (pv 7) pe_int) pa_nil)) (pe_methD T.cl M_ahead (hr.mono (by omega)) passL (pv 3) (pa_cons (pv 7) pa_nil))) (pe_methD T.cl M_size (hr.mono (by omega)) passL (pv 3) (pa_cons (pv 7) pa_nil)) (nomark _)) (pss_one (ps_ret pe_bl)) pss_nil)
        (pss_one (ps_for PassesOwn.never rfl (pi_tup (pe_tup (pa_cons (pe_op op_sub (pe_methD T.cl M_ahead (hr.mono (by omega)) passL (pv 3) (pa_cons (pv 7) pa_nil)) pe_int) (pa_cons (pe_methD T.cl M_ahead (hr.mono (by omega)) passL (pv 3) (pa_cons (pv 7) pa_nil)) (pa_cons (pe_methD T.cl M_ahead (hr.mono (by omega)) passL (pv 3) (pa_cons (pe_op op_add (pv 7) pe_int) pa_nil)) (pa_cons (pe_callD D_pick (hr.mono (by omega)) (by rfl) pass0 (pa_cons (pv 1) (pa_cons (pv 10) pa_nil))) pa_nil)))))) (pg_name (i := 11) sc_law.nd rfl (.inl rfl))
          (pss_one (ps_if (PW.pt (pw_and (pt_chain op_le op_lt pe_int (pv 11) (pv 10)) (pw_and1 (pt_not (pt_val (pe_callD D_same (hr.mono (by omega)) (by rfl) pass0 (pa_cons (pe_methD T.cl M_at (hr.mono (by omega)) passL (pv 3) (pa_cons (pv 11) pa_nil)) (pa_cons (pe_callD D_z_at (hr.mono (by omega)) (by rfl) pass0 (pa_cons (pv 2) (pa_cons (pv 11) pa_nil))) pa_nil)))))))) (pss_one (ps_ret pe_bl)) pss_nil))))))
      (pss_one (ps_ret pe_bl))))))))))), ?_⟩
    refine ⟨_, rfl, _, _, rfl, hS, fun a H1 na D1 s1 => ?_⟩
    refine ⟨_, rfl, _, _, rfl, D1, by decide, by decide, fun r2 H2 p2 q2 D2 e2 => ⟨_, _, rfl, rfl, ?_⟩⟩
    refine ⟨_, rfl, _, _, rfl, D2, by decide, by decide, fun r3 H3 p3 q3 D3 e3 => ⟨_, _, rfl, rfl, ?_⟩⟩
    have q2' : r2 < 940001 := q2
    have q3' : r3 < 60 := q3
    obtain ⟨m0, em⟩ : ∃ m0 : Int, m0 = 60000 + r2 := ⟨_, rfl⟩
    obtain ⟨c, ec⟩ : ∃ c : Int, c = 1 + r3 := ⟨_, rfl⟩
    have hmany : 1 ≤ m0 ∧ m0 ≤ 1000000 := by omega
    have hc : 1 ≤ c ∧ c ≤ 60 := by omega
    refine ⟨m0, c, (by rw [em, ec]; rfl), ⟨by omega, by omega⟩, hc, fun za zo zg H8 s8 Z8 _ _ _ => ?_⟩
    have D8 := D3.same s8
    refine ⟨_, rfl, _, _, rfl, dg_many Z8.ha, _, rfl, _, _, rfl, dg_common Z8.ha, rfl, rfl, fun x dx nx nd ne => ?_⟩
    have s9 := new2 nx nd ne (.own x) (.ins C dx [])
    refine ⟨x, dx, m0, c, rfl, upd_same, Sm.of (by omega) (by omega), Sm.of (by omega) (by omega), fun _ d0 H9 hd S9 fr => ⟨rfl, ?_⟩, fun no => absurd hmany no, fun _ no => absurd hc no⟩
    have s89 : Same H8 H9 := fun b o q => fr b o (s9 _ _ q) (ne_of_none q nx)
    have B9 : Both C H9 x d0 za zo zg ⟨m0, c, []⟩ ⟨m0, c, [], []⟩ := ⟨S9, Z8.same s89, rel0 _ _, zw0 _ _, (ne_of_none (s9 _ _ Z8.ha) hd).symm, (ne_of_none (s9 _ _ Z8.ho) hd).symm, (ne_of_none (s9 _ _ Z8.hg) hd).symm⟩
    have D9 := D8.same s89
    clear fr hd s9 nx nd ne s89 Z8 S9 D8 D3 D2 e3 e2 s8
    refine ⟨_, rfl, _, _, rfl, dg_many B9.Z.ha, _, _, rfl, rfl, (by show 2 ≤ sizeLine; decide), fun l n10 => ?_⟩
    obtain ⟨H10, eH⟩ : ∃ H10, H10 = upd H9 l (.lst ([0, m0 - 50000].map V.int)) := ⟨_, rfl⟩
    have s10 : Same H9 H10 := by rw [eH]; exact same_new n10 _
    have e10 : H10 l = some (.lst ([0, m0 - 50000].map V.int)) := by rw [eH]; exact upd_same
    show gName 4 (V.ref l) _ (upd H9 l (.lst ([0, m0 - 50000].map V.int))) _
    rw [← eH]
    clear eH n10
    have D10 := D9.same s10
    have la := D10.neI e10
    refine ⟨_, rfl, _, _, rfl, D10, by decide, by decide, fun r11 H11 p11 q11 D11 e11 => ?_⟩
    have q11' : r11 < 41 := q11
    refine ⟨_, rfl, by omega, by omega, ?_⟩
    refine for_range (lo := 0) (n := Int.toNat r11) (fun j σ H' => DrawAt H' a ∧ ∃ d az o g s z ns x5 x6 x7 x8 x9, σ = [some (.ref scr), some (.ref a), some (.ref az), some (.ref x), some (.ref l), x5, x6, x7, x8, x9, none, none] ∧ Both C H' x d az o g s z ∧ 50000 ≤ s.many ∧ s.many ≤ 1000000 ∧ s.odd.length ≤ j ∧ H' l = some (.lst (ns.map V.int)) ∧ ns ≠ [] ∧ ns.length = j + 2 ∧ ∀ n ∈ ns, 0 ≤ n ∧ n ≤ 1000000) ⟨D11, d0, za, zo, zg, _, _, [0, m0 - 50000], _, _, _, _, _, rfl, (B9.nls (Nls.of s10)).nls (Nls.ext D10 (Ext.pick D11 e11)), by show 50000 ≤ m0; omega, hmany.2, Nat.le_refl _, (e11 l la).trans e10, by simp, rfl, fun n hn => ?_⟩ ?_ ?_
    · simp only [List.mem_cons, List.mem_nil_iff, or_false] at hn
      rcases hn with rfl | rfl <;> omega
    · rintro j σ H12 hj ⟨D12, d, az, o, g, s, z, ns, x5, x6, x7, x8, x9, rfl, B12, b0, b1, ho, el12, nne, nl, nb⟩
      clear B9 D9 D10 D11 e11 e10 s10
      have mz : s.many = z.many := B12.R.many
      refine ⟨_, rfl, _, _, rfl, D12, by decide, by decide, fun way H13 p13 q13 D13 e13 => ?_⟩
      have B13 := B12.nls (Nls.ext D12 (Ext.pick D13 e13))
      have el13 := (e13 l la).trans el12
      -- the number
      refine ⟨_, rfl, _, rfl, _, _, rfl, dg_many B13.Z.ha, _, _, rfl, D13, by omega, by omega, fun r14 H14 p14 q14 D14 e14 => ?_⟩
      have B14 := B13.nls (Nls.ext D13 (Ext.pick D14 e14))
      have el14 := (e14 l la).trans el13
      obtain ⟨lst, ml, al⟩ := at_last nne
      have bl := nb lst ml
      refine ⟨_, rfl, _, _, rfl, dg_many B14.Z.ha, _, _, rfl, rfl, _, rfl, _, rfl, _, _, _, _, rfl, rfl, SqL.of el14, al, _, rfl, _, _, rfl, D14, by decide, by decide, fun r15 H15 p15 q15 D15 e15 => ?_⟩
      have B15 := B14.nls (Nls.ext D14 (Ext.pick D15 e15))
      have el15 := (e15 l la).trans el14
      have q15' : r15 < 4 := q15
      refine ⟨_, _, rfl, rfl, _, _, rfl, (by show 2 ≤ sizeLine; decide), fun t16 n16 => ?_⟩
      obtain ⟨k2, ek2⟩ : ∃ k2 : Int, k2 = if lst + r15 < z.many - 1 then lst + r15 else z.many - 1 := ⟨_, rfl⟩
      have bk2 : 0 ≤ k2 ∧ k2 < z.many := by
        rw [ek2]
        split <;> omega
      obtain ⟨H16, eH⟩ : ∃ H16, H16 = upd H15 t16 (.tup [.int r14, .int k2]) := ⟨_, rfl⟩
      have s16 : Same H15 H16 := by rw [eH]; exact same_new n16 _
      have et16 : H16 t16 = some (.tup [.int r14, .int k2]) := by rw [eH]; exact upd_same
      have D16 := D15.same s16
      have eH' : upd H15 t16 (.tup [.int r14, .int (if lst + r15 < z.many - 1 then lst + r15 else z.many - 1)]) = H16 := by rw [eH, ek2]
      refine ⟨_, rfl, _, _, rfl, (by show DrawAt (upd H15 t16 (.tup [.int r14, .int (if lst + r15 < z.many - 1 then lst + r15 else z.many - 1)])) a; rw [eH']; exact D16), by decide, by decide, fun r17 H17 p17 q17 D17 e17 => ?_⟩
      have e17' : ∀ b, b ≠ a → H17 b = H16 b := by rw [← eH']; exact e17
      have et17 := (Ext.pick D17 e17').tup D16 et16
      obtain ⟨k, hk, ek⟩ := ints2 (a := r14) (b := k2) p17 q17
      refine ⟨_, _, _, _, rfl, rfl, SqT.of et17, ek, ?_⟩
      have bk : 0 ≤ k ∧ k < s.many := by rcases hk with rfl | rfl <;> omega
      have B17 := (B15.nls (Nls.of s16)).nls (Nls.ext D16 (Ext.pick D17 e17'))
      have el17 := (e17' l la).trans (s16 _ _ el15)
      clear B13 B14 B15 D13 D14 D15 D16 e14 e15 e17 e17' eH eH' ek et16 et17 s16 el13 el14 el15 hk ek2 e13
      -- one place more
      refine ⟨_, rfl, .inl ⟨rfl, _, .inl (.inl el17)⟩, _, rfl, l, _, _, rfl, rfl, el17, Nat.lt_of_le_of_lt (by rw [List.length_map, nl]; show j + 2 ≤ 1000; omega) (show 1000 < sizeLine by decide), ?_⟩
      have em' : ns.map V.int ++ [V.int k] = (ns ++ [k]).map V.int := by rw [List.map_append]; rfl
      rw [em']
      have D18 := D17.ints la (ns ++ [k])
      have B18 := B17.nls (nls_upd el17 (.lst ((ns ++ [k]).map V.int)))
      have el18 : upd H17 l (.lst ((ns ++ [k]).map V.int)) l = some (.lst ((ns ++ [k]).map V.int)) := upd_same
      generalize upd H17 l (.lst ((ns ++ [k]).map V.int)) = H18 at D18 B18 el18 ⊢
      have nb' : ∀ n ∈ ns ++ [k], 0 ≤ n ∧ n ≤ 1000000 := fun n hn => by
        rcases List.mem_append.mp hn with q | q
        · exact nb n q
        · rw [List.mem_singleton.mp q]; omega
      have nl' : (ns ++ [k]).length = j + 1 + 2 := by rw [List.length_append, nl]; rfl
      have nne' : ns ++ [k] ≠ [] := by simp
      -- size and count
      refine ⟨_, rfl, _, _, rfl, D18, by decide, by decide, fun r19 H19 p19 q19 D19 e19 => ⟨_, _, rfl, rfl, ?_⟩⟩
      have q19' : r19 < 60 := q19
      obtain ⟨size, esz⟩ : ∃ size : Int, size = 1 + r19 := ⟨_, rfl⟩
      show gName 8 (V.int (1 + r19)) _ _ _
      rw [← esz]
      have B19 := B18.nls (Nls.ext D18 (Ext.pick D19 e19))
      have el19 := (e19 l la).trans el18
      refine ⟨_, rfl, _, _, rfl, dg_many B19.Z.ha, _, _, rfl, rfl, _, rfl, _, _, rfl, D19, by decide, by decide, fun r20 H20 p20 q20 D20 e20 => ⟨_, _, rfl, rfl, _, _, rfl, ?_⟩⟩
      have q20' : r20 < 1000 := q20
      obtain ⟨n, en⟩ : ∃ n : Int, n = if 1 + r20 < z.many - 50000 then 1 + r20 else z.many - 50000 := ⟨_, rfl⟩
      show gName 9 (V.int (if 1 + r20 < z.many - 50000 then 1 + r20 else z.many - 50000)) _ _ _
      rw [← en]
      have hn : 0 ≤ n ∧ n ≤ 1000 ∧ n ≤ z.many - 50000 := by
        rw [en]
        split <;> omega
      have B20 := B19.nls (Nls.ext D19 (Ext.pick D20 e20))
      have el20 := (e20 l la).trans el19
      clear B17 B18 B19 D17 D18 D19 e19 e20 el17 el18 el19 em' B12 D12
      have inr : inR s k := bk
      have smk : Sm k := Sm.of (by omega) (by omega)
      obtain ⟨dxx, hx⟩ := szw_ins B20.S
      obtain ⟨kvs, hdk⟩ := szw_dict B20.S
      have stay : ∀ {H'}, Frm d H20 H' → H' l = some (.lst ((ns ++ [k]).map V.int)) := fun f => f _ _ (ne_of el20 hdk (by intro e; cases e)) el20
      have stay2 : ∀ {H'}, Frm x H20 H' → H' l = some (.lst ((ns ++ [k]).map V.int)) := fun f => f _ _ (ne_of el20 hx (by intro e; cases e)) el20
      have hax : az ≠ x := ne_of B20.Z.ha hx (by intro e; cases e)
      have hox : o ≠ x := ne_of B20.Z.ho hx (by intro e; cases e)
      have hgx : g ≠ x := ne_of B20.Z.hg hx (by intro e; cases e)
      refine ⟨_, rfl, _, _, rfl, rfl, _, rfl, ?_⟩
      refine ite2 (fun c1 => ?_) (fun c1 => ?_)
      · refine ⟨_, rfl, x, dxx, _, rfl, hx, fz_no _ _ _, _, rfl, _, rfl, x, d, s, k, size, rfl, B20.S, smk, Sm.of (by omega) (by omega), fun _ _ _ nf H21 f21 S21 => ?_, fun no => absurd inr no, fun _ no => absurd ⟨by omega, by omega⟩ no, fun _ _ _ fu => absurd fu.2.2 (by omega)⟩
        refine ⟨_, rfl, _, rfl, _, rfl, az, o, g, z, k, size, rfl, B20.Z.frm B20.da B20.dO B20.dg f21, fun a' o' g' H22 s22 zh na' no' ng' => ?_⟩
        rw [show (zst z k).2 = (stM s k).2 by rw [B20.R.st k]] at zh
        have B22 := Both.step B20.w B20.R S21 s22 zh na' no' ng'
        exact ⟨(D20.frm hdk f21).same s22, d, a', o', g', _, _, ns ++ [k], _, _, _, _, _, rfl, B22, b0, b1, Nat.le_trans (keep_len _ _ _ _) (by omega), s22 _ _ (stay f21), nne', nl', nb'⟩
      · refine ⟨_, rfl, rfl, _, rfl, ?_⟩
        refine ite2 (fun c2 => ?_) (fun c2 => ?_)
        · refine ⟨_, rfl, x, dxx, _, rfl, hx, fz_no _ _ _, _, rfl, x, d, s, k, rfl, B20.S, smk, fun _ nf H21 f21 S21 => ?_, fun no => absurd inr no, fun _ fu => absurd fu.2.2 (by omega)⟩
          refine ⟨_, rfl, _, rfl, az, o, g, z, k, true, rfl, B20.Z.frm B20.da B20.dO B20.dg f21, fun a' o' g' H22 s22 zh na' no' ng' => ?_⟩
          rw [show (zst z k).1 = (stM s k).1 by rw [B20.R.st k]] at zh
          have B22 := Both.step B20.w B20.R S21 s22 zh na' no' ng'
          exact ⟨(D20.frm hdk f21).same s22, d, a', o', g', _, _, ns ++ [k], _, _, _, _, _, rfl, B22, b0, b1, Nat.le_trans (keep_len _ _ _ _) (by omega), s22 _ _ (stay f21), nne', nl', nb'⟩
        · have fin : ∀ {b : Prop}, (DrawAt H20 a ∧ Both C H20 x d az o g s z ∧ 50000 ≤ s.many ∧ s.many ≤ 1000000 ∧ s.odd.length ≤ j + 1 ∧ H20 l = some (.lst ((ns ++ [k]).map V.int)) → b) → b := fun h => h ⟨D20, B20, b0, b1, by omega, el20⟩
          refine ⟨_, rfl, rfl, _, rfl, ?_⟩
          refine ite2 (fun c3 => ?_) (fun c3 => ?_)
          · have e4 : way = 4 := by have := of_decide_eq_true c3; injection this
            have no5 : ¬ decide (V.int way = V.int 5) = true := fun q => by
              have := of_decide_eq_true q
              injection this with q2
              omega
            have nop : ∀ (Q' : Prop), Q' → Q' := fun _ h => h
            refine ⟨_, rfl, _, _, rfl, rfl, _, rfl, ?_⟩
            refine ite2 (fun c4 => ?_) (fun c4 => ?_)
            · have c4' : 0 < n := of_decide_eq_true c4
              refine ⟨_, rfl, _, _, rfl, dg_many B20.Z.ha, _, _, rfl, rfl, _, rfl, ?_⟩
              refine ite2 (fun c5 => ?_) (fun c5 => ?_)
              · have c5' : z.many < 900000 := of_decide_eq_true c5
                have gp : goodP n := ⟨by omega, by omega⟩
                refine ⟨_, rfl, x, dxx, _, rfl, hx, fz_no _ _ _, _, rfl, _, rfl, x, d, s, k, n, rfl, B20.S, smk, Sm.of (by omega) (by omega), by omega, fun _ _ d3 H23 nd3 f23 S23 => ?_, fun no => absurd ⟨by omega, by omega⟩ no, fun _ no => absurd gp no⟩
                have Z23 : ZAt H23 az o g z := B20.Z.frm hax.symm hox.symm hgx.symm f23
                obtain ⟨kv23, hd23⟩ := szw_dict S23
                refine ⟨_, rfl, _, rfl, _, rfl, az, o, g, z, k, n, rfl, Z23, B20.w, by omega, by show 1 ≤ z.many + n; omega, by show z.many + n ≤ 1000000000; omega, fun a5 o5 g5 H24 s24 zh24 na24 no24 ng24 => ?_⟩
                have R4 : Rel (putM s k n) (zonM z true k n) := rel_on (put := true) (by omega) S23.wf B20.w B20.R
                have B24 : Both C H24 x d3 a5 o5 g5 (putM s k n) (zonM z true k n) := Both.of (S23.same s24) zh24 (zon_w (by omega) B20.w) R4 (ne_of_none hd23 na24) (ne_of_none hd23 no24) (ne_of_none hd23 ng24)
                exact ⟨((D20.frmU hx (fun xs e => by cases e) f23)).same s24, d3, a5, o5, g5, _, _, ns ++ [k], _, _, _, _, _, rfl, B24, by show 50000 ≤ s.many + n; omega, by show s.many + n ≤ 1000000; omega, Nat.le_trans (mov_len _ _) (by omega), s24 _ _ (stay2 f23), nne', nl', nb'⟩
              · refine ⟨_, rfl, rfl, _, rfl, ?_⟩
                refine ifF no5 ?_
                refine ifF (by simp) ?_
                exact ⟨D20, d, az, o, g, s, z, ns ++ [k], _, _, _, _, _, rfl, B20, b0, b1, by omega, el20, nne', nl', nb'⟩
            · refine ifF (by simp) ?_
              refine ⟨_, rfl, rfl, _, rfl, ?_⟩
              refine ifF no5 ?_
              refine ifF (by simp) ?_
              exact ⟨D20, d, az, o, g, s, z, ns ++ [k], _, _, _, _, _, rfl, B20, b0, b1, by omega, el20, nne', nl', nb'⟩
          · refine ifF (by simp) ?_
            refine ⟨_, rfl, rfl, _, rfl, ?_⟩
            refine ite2 (fun c4 => ?_) (fun c4 => ?_)
            · refine ⟨_, rfl, _, _, rfl, rfl, _, rfl, ?_⟩
              refine ite2 (fun c5 => ?_) (fun c5 => ?_)
              · have c5' : 0 < n := of_decide_eq_true c5
                refine ⟨_, rfl, _, rfl, _, _, rfl, rfl, _, rfl, _, _, rfl, dg_many B20.Z.ha, _, _, rfl, rfl, _, rfl, ?_⟩
                refine ite2 (fun c6 => ?_) (fun c6 => ?_)
                · have c6' : k + n ≤ z.many := of_decide_eq_true c6
                  have gc : goodC s k n := ⟨by omega, by omega, by omega⟩
                  refine ⟨_, rfl, x, dxx, _, rfl, hx, fz_no _ _ _, _, rfl, _, rfl, x, d, s, k, n, rfl, B20.S, smk, Sm.of (by omega) (by omega), fun _ _ d3 H23 nd3 f23 S23 => ?_, fun no => absurd inr no, fun _ no => absurd gc no⟩
                  have Z23 : ZAt H23 az o g z := B20.Z.frm hax.symm hox.symm hgx.symm f23
                  obtain ⟨kv23, hd23⟩ := szw_dict S23
                  refine ⟨_, rfl, _, rfl, _, rfl, az, o, g, z, k, n, rfl, Z23, B20.w, by omega, by show 1 ≤ z.many - n; omega, by show z.many - n ≤ 1000000000; omega, fun a5 o5 g5 H24 s24 zh24 na24 no24 ng24 => ?_⟩
                  have R4 : Rel (cutM s k n) (zonM z false k n) := rel_on (put := false) (by omega) S23.wf B20.w B20.R
                  have B24 : Both C H24 x d3 a5 o5 g5 (cutM s k n) (zonM z false k n) := Both.of (S23.same s24) zh24 (zon_w (by omega) B20.w) R4 (ne_of_none hd23 na24) (ne_of_none hd23 no24) (ne_of_none hd23 ng24)
                  exact ⟨((D20.frmU hx (fun xs e => by cases e) f23)).same s24, d3, a5, o5, g5, _, _, ns ++ [k], _, _, _, _, _, rfl, B24, by show 50000 ≤ s.many - n; omega, by show s.many - n ≤ 1000000; omega, Nat.le_trans (mov_len _ _) (by omega), s24 _ _ (stay2 f23), nne', nl', nb'⟩
                · exact ⟨D20, d, az, o, g, s, z, ns ++ [k], _, _, _, _, _, rfl, B20, b0, b1, by omega, el20, nne', nl', nb'⟩
              · refine ifF (by simp) ?_
                exact ⟨D20, d, az, o, g, s, z, ns ++ [k], _, _, _, _, _, rfl, B20, b0, b1, by omega, el20, nne', nl', nb'⟩
            · refine ifF (by simp) ?_
              exact ⟨D20, d, az, o, g, s, z, ns ++ [k], _, _, _, _, _, rfl, B20, b0, b1, by omega, el20, nne', nl', nb'⟩
    rintro σ H12 ⟨D12, d, az, o, g, s, z, ns, x5, x6, x7, x8, x9, rfl, B12, b0, b1, ho, el12, nne, nl, nb⟩
    clear B9 D9 D10 D11 e11 e10 s10 la
    have mz : s.many = z.many := B12.R.many
    have W := B12.S.wf
    have nl2 : ns.length ≤ 43 := by omega
    refine ⟨_, rfl, _, rfl, _, _, rfl, dg_many B12.Z.ha, az, o, g, z, z.many, rfl, B12.Z, fun H13 s13 => ?_⟩
    have eend : zah z z.many = ahM s s.many := by rw [mz]; exact (B12.R.ah z.many).symm
    rw [eend]
    have en1 := ah_pos W (i := s.many) (by omega)
    have en2 := (ah_range W (i := s.many) (by omega)).2
    generalize een : ahM s s.many = en at en1 en2
    have Z13 := B12.Z.same s13
    have hl13 := s13 _ _ el12
    -- the places
    refine ⟨_, rfl, l, rfl, ⟨_, SqL.of hl13⟩, fun D hD => ?_⟩
    refine lc_list (K := K) (a := l) (xs := ns.map V.int) (fun j H2 => Same H13 H2 ∧ H2 D = some (.lst (((ns.take j).filter fun k => decide (k < z.many - 1)).map V.int))) ⟨same_new hD _, upd_same⟩ (fun j H2 _ q => SqL.of (q.1 _ _ hl13)) ?_ ?_
    · rintro j y H2 hy ⟨s2, e2⟩
      rw [List.getElem?_map] at hy
      cases hj : ns[j]? with
      | none => rw [hj] at hy; cases hy
      | some kk =>
        rw [hj] at hy
        have hy' : V.int kk = y := Option.some.inj hy
        subst hy'
        refine ⟨rfl, ?_⟩
        refine ⟨_, rfl, _, rfl, _, _, rfl, dg_many (s2 _ _ Z13.ha), _, _, rfl, rfl, _, _, rfl, rfl, _, rfl, ?_⟩
        refine ite2 (fun q => ?_) (fun q => ?_)
        · refine ⟨_, rfl, _, e2, ?_, ?_, ?_⟩
          · refine Nat.lt_of_le_of_lt ?_ (show 1000 < sizeLine by decide)
            rw [List.length_map]
            exact Nat.le_trans (List.length_filter_le _ _) (Nat.le_trans (List.length_take_le' _ _) (by omega))
          · intro b' o' z'
            rw [upd_ne (ne_of_none z' hD)]
            exact s2 _ _ z'
          · rw [upd_same, take_filter1 _ _ hj, if_pos q, List.map_append]
            rfl
        · refine ⟨s2, ?_⟩
          rw [take_filter1 _ _ hj, if_neg q, List.append_nil]
          exact e2
    rintro H14 ⟨s14, e14⟩
    rw [List.length_map, List.take_length] at e14
    obtain ⟨ms, ems⟩ : ∃ ms, ms = ns.filter fun k => decide (k < z.many - 1) := ⟨_, rfl⟩
    rw [← ems] at e14
    have mb : ∀ k ∈ ms, 0 ≤ k ∧ k < s.many - 1 := fun k hk => by
      rw [ems, List.mem_filter] at hk
      have h1 := nb k hk.1
      have h2 := of_decide_eq_true hk.2
      omega
    have ml : ms.length ≤ 43 := by rw [ems]; exact Nat.le_trans (List.length_filter_le _ _) nl2
    have B14 := (B12.nls (Nls.of s13)).nls (Nls.of s14)
    have D14 := (D12.same s13).same s14
    clear B12 D12 Z13 hl13 s13 s14 el12
    refine ⟨_, rfl, _, rfl, _, rfl, x, d, az, o, g, D, s, z, ms, rfl, B14.S, B14.Z, B14.R, e14, by omega, fun n hn => Sm.of (by have := mb n hn; omega) (by have := mb n hn; omega), fun H15 s15 => ⟨_, rfl, ?_⟩⟩
    refine ifF (by simp) ?_
    have B15 := B14.nls (Nls.of s15)
    have D15 := D14.same s15
    have e15 := s15 _ _ e14
    clear B14 D14 s15
    have Da := D15.neI e15
    refine ⟨_, rfl, D, rfl, ⟨_, SqL.of e15⟩, ?_⟩
    refine for_list (K := K) (a := D) (xs := ms.map V.int) (fun j σ H' => DrawAt H' a ∧ Both C H' x d az o g s z ∧ H' D = some (.lst (ms.map V.int)) ∧ ∃ x7 x11, σ = [some (.ref scr), some (.ref a), some (.ref az), some (.ref x), some (.ref D), x5, x6, x7, x8, x9, some (.int en), x11]) ⟨D15, B15, e15, _, _, rfl⟩ (fun j σ H' _ q => SqL.of q.2.2.1) ?_ ?_
    · rintro j y σ H16 hy ⟨D16, B16, e16, x7, x11, rfl⟩
      rw [List.getElem?_map] at hy
      cases hj : ms[j]? with
      | none => rw [hj] at hy; cases hy
      | some kk =>
        rw [hj] at hy
        have hy' : V.int kk = y := Option.some.inj hy
        subst hy'
        have kb := mb kk (List.mem_of_getElem? hj)
        have sk : Sm kk := Sm.of (by omega) (by omega)
        have sk1 : Sm (kk + 1) := Sm.of (by omega) (by omega)
        have as := ah_succ W kk
        obtain ⟨dxx, hx⟩ := szw_ins B16.S
        have okk : 0 ≤ kk ∧ kk ≤ s.many := by omega
        have okk1 : 0 ≤ kk + 1 ∧ kk + 1 ≤ s.many := by omega
        have inr : inR s kk := ⟨by omega, by omega⟩
        refine ⟨_, rfl, x, dxx, _, rfl, hx, fz_no _ _ _, _, rfl, _, _, rfl, rfl, x, d, s, kk + 1, rfl, B16.S, sk1, fun _ H17 s17 => ?_, fun no => absurd okk1 no⟩
        refine ⟨_, rfl, x, dxx, _, rfl, s17 _ _ hx, fz_no _ _ _, _, rfl, x, d, s, kk, rfl, B16.S.same s17, sk, fun _ H18 s18 => ?_, fun no => absurd okk no⟩
        have s68 := s17.trans s18
        refine ⟨_, _, rfl, rfl, _, rfl, x, dxx, _, rfl, s68 _ _ hx, fz_no _ _ _, _, rfl, x, d, s, kk, rfl, (B16.S.same s68).r, sk, fun _ H19 s19 => ?_, fun no => absurd inr no⟩
        refine ⟨rfl, _, rfl, ?_⟩
        refine ifF ?_ ?_
        · show ¬ (!decide (V.int (ahM s (kk + 1) - ahM s kk) = V.int (szM s kk))) = true
          rw [show ahM s (kk + 1) - ahM s kk = szM s kk by omega]
          simp
        have s69 := s68.trans s19
        have S19 := B16.S.same s69
        have hx19 := s69 _ _ hx
        refine ⟨_, rfl, x, dxx, _, rfl, hx19, fz_no _ _ _, _, rfl, x, d, s, kk, rfl, S19, sk, fun _ H20 s20 => ?_, fun no => absurd okk no⟩
        refine ⟨_, _, rfl, rfl, _, rfl, x, dxx, _, rfl, s20 _ _ hx19, fz_no _ _ _, _, rfl, x, d, s, kk, rfl, S19.same s20, sk, fun _ H21 s21 => ?_, fun no => absurd okk no⟩
        have s01 := s20.trans s21
        refine ⟨_, rfl, x, dxx, _, rfl, s01 _ _ hx19, fz_no _ _ _, _, rfl, _, _, rfl, rfl, x, d, s, kk + 1, rfl, S19.same s01, sk1, fun _ H22 s22 => ?_, fun no => absurd okk1 no⟩
        have s02 := s69.trans (s01.trans s22)
        have D22 := D16.same s02
        refine ⟨_, rfl, _, rfl, a, _, rfl, D22, en1, by omega, fun r23 H23 p23 q23 D23 e23 => ?_⟩
        have B23 := (B16.nls (Nls.of s02)).nls (Nls.ext D22 (Ext.pick D23 e23))
        have e23' := (e23 D Da).trans (s02 _ _ e16)
        refine ⟨(by show 4 ≤ sizeLine; decide), fun t n24 => ?_⟩
        obtain ⟨ps, eps⟩ : ∃ ps, ps = [ahM s kk - 1, ahM s kk, ahM s (kk + 1), r23] := ⟨_, rfl⟩
        obtain ⟨H24, eH⟩ : ∃ H24, H24 = upd H23 t (.tup (ps.map V.int)) := ⟨_, rfl⟩
        have s24 : Same H23 H24 := by rw [eH]; exact same_new n24 _
        have et : H24 t = some (.tup (ps.map V.int)) := by rw [eH]; exact upd_same
        have eH' : upd H23 t (.tup ([ahM s kk - 1, ahM s kk, ahM s (kk + 1), r23].map V.int)) = H24 := by rw [eH, eps]
        have B24 := B23.nls (Nls.of s24)
        have D24 := D23.same s24
        have e24 := s24 _ _ e23'
        refine ⟨t, rfl, ⟨ps.map V.int, SqT.of (by show upd H23 t (.tup ([ahM s kk - 1, ahM s kk, ahM s (kk + 1), r23].map V.int)) t = _; rw [eH']; exact et)⟩, ?_⟩
        refine for_tup (K := K) (a := t) (xs := ps.map V.int) (fun j σ H' => Same H24 H' ∧ ∃ x11, σ = [some (.ref scr), some (.ref a), some (.ref az), some (.ref x), some (.ref D), x5, x6, some (.int kk), x8, x9, some (.int en), x11]) ⟨(by show Same H24 (upd H23 t (.tup ([ahM s kk - 1, ahM s kk, ahM s (kk + 1), r23].map V.int))); rw [eH']; exact Same.refl _), _, rfl⟩ (fun j σ H' _ q => SqT.of (q.1 _ _ et)) ?_ ?_
        · rintro i y σ H25 hy ⟨s25, x11, rfl⟩
          rw [List.getElem?_map] at hy
          cases hp : ps[i]? with
          | none => rw [hp] at hy; cases hy
          | some pt =>
            rw [hp] at hy
            have hy' : V.int pt = y := Option.some.inj hy
            subst hy'
            refine ⟨_, rfl, _, _, rfl, rfl, _, rfl, ?_⟩
            refine ite2 (fun g1 => ?_) (fun g1 => ?_)
            · have g1' : 0 ≤ pt := of_decide_eq_true g1
              refine ⟨_, rfl, _, _, rfl, rfl, _, rfl, ?_⟩
              refine ite2 (fun g2 => ?_) (fun g2 => ?_)
              · have g2' : pt < en := of_decide_eq_true g2
                have S25 := B24.S.same s25
                obtain ⟨dx5, hx5⟩ := szw_ins S25
                refine ⟨_, rfl, x, dx5, _, rfl, hx5, fz_no _ _ _, _, rfl, x, d, s, pt, rfl, S25, Sm.of (by omega) (by omega), fun _ _ k1 t1 H26 i1 l1 u1 s26 e26 => ?_, fun no => absurd ⟨g1', by rw [een]; exact g2'⟩ no⟩
                refine ⟨_, rfl, _, rfl, az, o, g, s, z, pt, rfl, (B24.Z.same s25).same s26, B24.R, W, g1', by rw [een]; exact g2', by omega, fun k2 t2 H27 i2 l2 u2 s27 e27 => ?_⟩
                have ek := at_one W l1 u1 l2 u2
                subst ek
                refine ⟨_, _, .tuple [.int k1, .int (pt - ahM s k1)], rfl, .tup (SqT.of (s27 _ _ e26)) (.cons (.int _) (.cons (.int _) .nil)), .tup (SqT.of e27) (.cons (.int _) (.cons (.int _) .nil)), ?_, ?_, fun H28 s28 => ⟨_, rfl, ?_⟩⟩
                · simp [PyData.depth, PyData.depthAll]
                · simp [mxl, mxlAll]
                refine ifF (by simp) ?_
                exact ⟨s25.trans (s26.trans (s27.trans s28)), _, rfl⟩
              · exact ⟨s25, _, rfl⟩
            · refine ⟨_, rfl, ?_⟩
              refine ifF (by simp) ?_
              exact ⟨s25, _, rfl⟩
        · rintro σ H25 ⟨s25, x11, rfl⟩
          exact ⟨D24.same s25, B24.nls (Nls.of s25), s25 _ _ e24, _, _, rfl⟩
    rintro σ H16 ⟨D16, B16, e16, x7, x11, rfl⟩
    exact k _
end
end K04

set_option Elab.async false
set_option linter.all false
set_option maxRecDepth 100000
set_option maxHeartbeats 4000000
namespace K04
open PySem L2 Gs
theorem all_mk {l : PySem.W.OpenLaw} {w : World} {K : PySem.W.Frag} {h : Heap} {mg : Str → Option Value} {fa : Addr} {C cN cP cM cS cF : Addr} {tG tM tQ tR : Tok} {kV_init : Value} (X : K.In h) (G : h.Ns mainGlobals mg) (hfa : mg "law" = some (.ref fa))
    {f_begin : Addr} {od_begin an_begin : Option Addr} {sl_begin : Array (Option Value)} {oc_begin dc_begin pm_begin cd_begin ct_begin kV_begin : Value}
    (a_begin : PySem.W.nsIn K mainGlobals "_law_begin" = some (some (.ref f_begin)))
    (l_begin : K.lookup f_begin = some ⟨oc_begin, od_begin, .func (PySem.W.fnOf "_law_begin" "_law_begin" (defArgs s_begin) (defBody s_begin) (defScope s_begin) .none kV_begin dc_begin pm_begin an_begin cd_begin ct_begin), sl_begin⟩)
    (c_begin : PySem.W.codeIn K cd_begin "_law_begin" = true)
    (k_begin : PySem.W.keepIn K (.ref f_begin) = true)
    {f_pick : Addr} {od_pick an_pick : Option Addr} {sl_pick : Array (Option Value)} {oc_pick dc_pick pm_pick cd_pick ct_pick kV_pick : Value}
    (a_pick : PySem.W.nsIn K mainGlobals "_law_pick" = some (some (.ref f_pick)))
    (l_pick : K.lookup f_pick = some ⟨oc_pick, od_pick, .func (PySem.W.fnOf "_law_pick" "_law_pick" (defArgs s_pick) (defBody s_pick) (defScope s_pick) .none kV_pick dc_pick pm_pick an_pick cd_pick ct_pick), sl_pick⟩)
    (c_pick : PySem.W.codeIn K cd_pick "_law_pick" = true)
    (k_pick : PySem.W.keepIn K (.ref f_pick) = true)
    {f_check_size : Addr} {od_check_size an_check_size : Option Addr} {sl_check_size : Array (Option Value)} {oc_check_size dc_check_size pm_check_size cd_check_size ct_check_size kV_check_size : Value}
    (a_check_size : PySem.W.nsIn K mainGlobals "check_size" = some (some (.ref f_check_size)))
    (l_check_size : K.lookup f_check_size = some ⟨oc_check_size, od_check_size, .func (PySem.W.fnOf "check_size" "check_size" (defArgs s_check_size) (defBody s_check_size) (defScope s_check_size) .none kV_check_size dc_check_size pm_check_size an_check_size cd_check_size ct_check_size), sl_check_size⟩)
    (c_check_size : PySem.W.codeIn K cd_check_size "check_size" = true)
    (k_check_size : PySem.W.keepIn K (.ref f_check_size) = true)
    {f_check_number : Addr} {od_check_number an_check_number : Option Addr} {sl_check_number : Array (Option Value)} {oc_check_number dc_check_number pm_check_number cd_check_number ct_check_number kV_check_number : Value}
    (a_check_number : PySem.W.nsIn K mainGlobals "check_number" = some (some (.ref f_check_number)))
    (l_check_number : K.lookup f_check_number = some ⟨oc_check_number, od_check_number, .func (PySem.W.fnOf "check_number" "check_number" (defArgs s_check_number) (defBody s_check_number) (defScope s_check_number) .none kV_check_number dc_check_number pm_check_number an_check_number cd_check_number ct_check_number), sl_check_number⟩)
    (c_check_number : PySem.W.codeIn K cd_check_number "check_number" = true)
    (k_check_number : PySem.W.keepIn K (.ref f_check_number) = true)
    {f_z_odd : Addr} {od_z_odd an_z_odd : Option Addr} {sl_z_odd : Array (Option Value)} {oc_z_odd dc_z_odd pm_z_odd cd_z_odd ct_z_odd kV_z_odd : Value}
    (a_z_odd : PySem.W.nsIn K mainGlobals "_law_z_odd" = some (some (.ref f_z_odd)))
    (l_z_odd : K.lookup f_z_odd = some ⟨oc_z_odd, od_z_odd, .func (PySem.W.fnOf "_law_z_odd" "_law_z_odd" (defArgs s_z_odd) (defBody s_z_odd) (defScope s_z_odd) .none kV_z_odd dc_z_odd pm_z_odd an_z_odd cd_z_odd ct_z_odd), sl_z_odd⟩)
    (c_z_odd : PySem.W.codeIn K cd_z_odd "_law_z_odd" = true)
    (k_z_odd : PySem.W.keepIn K (.ref f_z_odd) = true)
    {f_z_size : Addr} {od_z_size an_z_size : Option Addr} {sl_z_size : Array (Option Value)} {oc_z_size dc_z_size pm_z_size cd_z_size ct_z_size kV_z_size : Value}
    (a_z_size : PySem.W.nsIn K mainGlobals "_law_z_size" = some (some (.ref f_z_size)))
    (l_z_size : K.lookup f_z_size = some ⟨oc_z_size, od_z_size, .func (PySem.W.fnOf "_law_z_size" "_law_z_size" (defArgs s_z_size) (defBody s_z_size) (defScope s_z_size) .none kV_z_size dc_z_size pm_z_size an_z_size cd_z_size ct_z_size), sl_z_size⟩)
    (c_z_size : PySem.W.codeIn K cd_z_size "_law_z_size" = true)
    (k_z_size : PySem.W.keepIn K (.ref f_z_size) = true)
    {f_z_ahead : Addr} {od_z_ahead an_z_ahead : Option Addr} {sl_z_ahead : Array (Option Value)} {oc_z_ahead dc_z_ahead pm_z_ahead cd_z_ahead ct_z_ahead kV_z_ahead : Value}
    (a_z_ahead : PySem.W.nsIn K mainGlobals "_law_z_ahead" = some (some (.ref f_z_ahead)))
    (l_z_ahead : K.lookup f_z_ahead = some ⟨oc_z_ahead, od_z_ahead, .func (PySem.W.fnOf "_law_z_ahead" "_law_z_ahead" (defArgs s_z_ahead) (defBody s_z_ahead) (defScope s_z_ahead) .none kV_z_ahead dc_z_ahead pm_z_ahead an_z_ahead cd_z_ahead ct_z_ahead), sl_z_ahead⟩)
    (c_z_ahead : PySem.W.codeIn K cd_z_ahead "_law_z_ahead" = true)
    (k_z_ahead : PySem.W.keepIn K (.ref f_z_ahead) = true)
    {f_same : Addr} {od_same an_same : Option Addr} {sl_same : Array (Option Value)} {oc_same dc_same pm_same cd_same ct_same kV_same : Value}
    (a_same : PySem.W.nsIn K mainGlobals "_law_same" = some (some (.ref f_same)))
    (l_same : K.lookup f_same = some ⟨oc_same, od_same, .func (PySem.W.fnOf "_law_same" "_law_same" (defArgs s_same) (defBody s_same) (defScope s_same) .none kV_same dc_same pm_same an_same cd_same ct_same), sl_same⟩)
    (c_same : PySem.W.codeIn K cd_same "_law_same" = true)
    (k_same : PySem.W.keepIn K (.ref f_same) = true)
    {f_z_stands : Addr} {od_z_stands an_z_stands : Option Addr} {sl_z_stands : Array (Option Value)} {oc_z_stands dc_z_stands pm_z_stands cd_z_stands ct_z_stands kV_z_stands : Value}
    (a_z_stands : PySem.W.nsIn K mainGlobals "_law_z_stands" = some (some (.ref f_z_stands)))
    (l_z_stands : K.lookup f_z_stands = some ⟨oc_z_stands, od_z_stands, .func (PySem.W.fnOf "_law_z_stands" "_law_z_stands" (defArgs s_z_stands) (defBody s_z_stands) (defScope s_z_stands) .none kV_z_stands dc_z_stands pm_z_stands an_z_stands cd_z_stands ct_z_stands), sl_z_stands⟩)
    (c_z_stands : PySem.W.codeIn K cd_z_stands "_law_z_stands" = true)
    (k_z_stands : PySem.W.keepIn K (.ref f_z_stands) = true)
    {f_z : Addr} {od_z an_z : Option Addr} {sl_z : Array (Option Value)} {oc_z dc_z pm_z cd_z ct_z kV_z : Value}
    (a_z : PySem.W.nsIn K mainGlobals "_law_z" = some (some (.ref f_z)))
    (l_z : K.lookup f_z = some ⟨oc_z, od_z, .func (PySem.W.fnOf "_law_z" "_law_z" (defArgs s_z) (defBody s_z) (defScope s_z) .none kV_z dc_z pm_z an_z cd_z ct_z), sl_z⟩)
    (c_z : PySem.W.codeIn K cd_z "_law_z" = true)
    (k_z : PySem.W.keepIn K (.ref f_z) = true)
    {f_z_with : Addr} {od_z_with an_z_with : Option Addr} {sl_z_with : Array (Option Value)} {oc_z_with dc_z_with pm_z_with cd_z_with ct_z_with kV_z_with : Value}
    (a_z_with : PySem.W.nsIn K mainGlobals "_law_z_with" = some (some (.ref f_z_with)))
    (l_z_with : K.lookup f_z_with = some ⟨oc_z_with, od_z_with, .func (PySem.W.fnOf "_law_z_with" "_law_z_with" (defArgs s_z_with) (defBody s_z_with) (defScope s_z_with) .none kV_z_with dc_z_with pm_z_with an_z_with cd_z_with ct_z_with), sl_z_with⟩)
    (c_z_with : PySem.W.codeIn K cd_z_with "_law_z_with" = true)
    (k_z_with : PySem.W.keepIn K (.ref f_z_with) = true)
    {f_z_set : Addr} {od_z_set an_z_set : Option Addr} {sl_z_set : Array (Option Value)} {oc_z_set dc_z_set pm_z_set cd_z_set ct_z_set kV_z_set : Value}
    (a_z_set : PySem.W.nsIn K mainGlobals "_law_z_set" = some (some (.ref f_z_set)))
    (l_z_set : K.lookup f_z_set = some ⟨oc_z_set, od_z_set, .func (PySem.W.fnOf "_law_z_set" "_law_z_set" (defArgs s_z_set) (defBody s_z_set) (defScope s_z_set) .none kV_z_set dc_z_set pm_z_set an_z_set cd_z_set ct_z_set), sl_z_set⟩)
    (c_z_set : PySem.W.codeIn K cd_z_set "_law_z_set" = true)
    (k_z_set : PySem.W.keepIn K (.ref f_z_set) = true)
    {f_z_hide : Addr} {od_z_hide an_z_hide : Option Addr} {sl_z_hide : Array (Option Value)} {oc_z_hide dc_z_hide pm_z_hide cd_z_hide ct_z_hide kV_z_hide : Value}
    (a_z_hide : PySem.W.nsIn K mainGlobals "_law_z_hide" = some (some (.ref f_z_hide)))
    (l_z_hide : K.lookup f_z_hide = some ⟨oc_z_hide, od_z_hide, .func (PySem.W.fnOf "_law_z_hide" "_law_z_hide" (defArgs s_z_hide) (defBody s_z_hide) (defScope s_z_hide) .none kV_z_hide dc_z_hide pm_z_hide an_z_hide cd_z_hide ct_z_hide), sl_z_hide⟩)
    (c_z_hide : PySem.W.codeIn K cd_z_hide "_law_z_hide" = true)
    (k_z_hide : PySem.W.keepIn K (.ref f_z_hide) = true)
    {f_go_on : Addr} {od_go_on an_go_on : Option Addr} {sl_go_on : Array (Option Value)} {oc_go_on dc_go_on pm_go_on cd_go_on ct_go_on kV_go_on : Value}
    (a_go_on : PySem.W.nsIn K mainGlobals "_law_go_on" = some (some (.ref f_go_on)))
    (l_go_on : K.lookup f_go_on = some ⟨oc_go_on, od_go_on, .func (PySem.W.fnOf "_law_go_on" "_law_go_on" (defArgs s_go_on) (defBody s_go_on) (defScope s_go_on) .none kV_go_on dc_go_on pm_go_on an_go_on cd_go_on ct_go_on), sl_go_on⟩)
    (c_go_on : PySem.W.codeIn K cd_go_on "_law_go_on" = true)
    (k_go_on : PySem.W.keepIn K (.ref f_go_on) = true)
    {f_z_on : Addr} {od_z_on an_z_on : Option Addr} {sl_z_on : Array (Option Value)} {oc_z_on dc_z_on pm_z_on cd_z_on ct_z_on kV_z_on : Value}
    (a_z_on : PySem.W.nsIn K mainGlobals "_law_z_on" = some (some (.ref f_z_on)))
    (l_z_on : K.lookup f_z_on = some ⟨oc_z_on, od_z_on, .func (PySem.W.fnOf "_law_z_on" "_law_z_on" (defArgs s_z_on) (defBody s_z_on) (defScope s_z_on) .none kV_z_on dc_z_on pm_z_on an_z_on cd_z_on ct_z_on), sl_z_on⟩)
    (c_z_on : PySem.W.codeIn K cd_z_on "_law_z_on" = true)
    (k_z_on : PySem.W.keepIn K (.ref f_z_on) = true)
    {f_z_put : Addr} {od_z_put an_z_put : Option Addr} {sl_z_put : Array (Option Value)} {oc_z_put dc_z_put pm_z_put cd_z_put ct_z_put kV_z_put : Value}
    (a_z_put : PySem.W.nsIn K mainGlobals "_law_z_put" = some (some (.ref f_z_put)))
    (l_z_put : K.lookup f_z_put = some ⟨oc_z_put, od_z_put, .func (PySem.W.fnOf "_law_z_put" "_law_z_put" (defArgs s_z_put) (defBody s_z_put) (defScope s_z_put) .none kV_z_put dc_z_put pm_z_put an_z_put cd_z_put ct_z_put), sl_z_put⟩)
    (c_z_put : PySem.W.codeIn K cd_z_put "_law_z_put" = true)
    (k_z_put : PySem.W.keepIn K (.ref f_z_put) = true)
    {f_z_cut : Addr} {od_z_cut an_z_cut : Option Addr} {sl_z_cut : Array (Option Value)} {oc_z_cut dc_z_cut pm_z_cut cd_z_cut ct_z_cut kV_z_cut : Value}
    (a_z_cut : PySem.W.nsIn K mainGlobals "_law_z_cut" = some (some (.ref f_z_cut)))
    (l_z_cut : K.lookup f_z_cut = some ⟨oc_z_cut, od_z_cut, .func (PySem.W.fnOf "_law_z_cut" "_law_z_cut" (defArgs s_z_cut) (defBody s_z_cut) (defScope s_z_cut) .none kV_z_cut dc_z_cut pm_z_cut an_z_cut cd_z_cut ct_z_cut), sl_z_cut⟩)
    (c_z_cut : PySem.W.codeIn K cd_z_cut "_law_z_cut" = true)
    (k_z_cut : PySem.W.keepIn K (.ref f_z_cut) = true)
    {f_z_at : Addr} {od_z_at an_z_at : Option Addr} {sl_z_at : Array (Option Value)} {oc_z_at dc_z_at pm_z_at cd_z_at ct_z_at kV_z_at : Value}
    (a_z_at : PySem.W.nsIn K mainGlobals "_law_z_at" = some (some (.ref f_z_at)))
    (l_z_at : K.lookup f_z_at = some ⟨oc_z_at, od_z_at, .func (PySem.W.fnOf "_law_z_at" "_law_z_at" (defArgs s_z_at) (defBody s_z_at) (defScope s_z_at) .none kV_z_at dc_z_at pm_z_at an_z_at cd_z_at ct_z_at), sl_z_at⟩)
    (c_z_at : PySem.W.codeIn K cd_z_at "_law_z_at" = true)
    (k_z_at : PySem.W.keepIn K (.ref f_z_at) = true)
    {f_law : Addr} {od_law an_law : Option Addr} {sl_law : Array (Option Value)} {oc_law dc_law pm_law cd_law ct_law kV_law : Value}
    (a_law : PySem.W.nsIn K mainGlobals "law" = some (some (.ref f_law)))
    (l_law : K.lookup f_law = some ⟨oc_law, od_law, .func (PySem.W.fnOf "law" "law" (defArgs s_law) (defBody s_law) (defScope s_law) .none kV_law dc_law pm_law an_law cd_law ct_law), sl_law⟩)
    (c_law : PySem.W.codeIn K cd_law "law" = true)
    (k_law : PySem.W.keepIn K (.ref f_law) = true)
    {f_state : Addr} {od_state an_state : Option Addr} {sl_state : Array (Option Value)} {oc_state dc_state pm_state cd_state ct_state kV_state : Value}
    (a_state : PySem.W.findIn K (.ref C) "state" = some (some (.ref f_state)))
    (i_state : PySem.W.isFn K (.ref f_state) = true)
    (l_state : K.lookup f_state = some ⟨oc_state, od_state, .func (PySem.W.fnOf "state" "Sizes.state" (defArgs s_Sizes_state) (defBody s_Sizes_state) (defScope s_Sizes_state) .none kV_state dc_state pm_state an_state cd_state ct_state), sl_state⟩)
    (c_state : PySem.W.codeIn K cd_state "Sizes.state" = true)
    (k_state : PySem.W.keepIn K (.ref f_state) = true)
    {f_size : Addr} {od_size an_size : Option Addr} {sl_size : Array (Option Value)} {oc_size dc_size pm_size cd_size ct_size kV_size : Value}
    (a_size : PySem.W.findIn K (.ref C) "size" = some (some (.ref f_size)))
    (i_size : PySem.W.isFn K (.ref f_size) = true)
    (l_size : K.lookup f_size = some ⟨oc_size, od_size, .func (PySem.W.fnOf "size" "Sizes.size" (defArgs s_Sizes_size) (defBody s_Sizes_size) (defScope s_Sizes_size) .none kV_size dc_size pm_size an_size cd_size ct_size), sl_size⟩)
    (c_size : PySem.W.codeIn K cd_size "Sizes.size" = true)
    (k_size : PySem.W.keepIn K (.ref f_size) = true)
    {f_own : Addr} {od_own an_own : Option Addr} {sl_own : Array (Option Value)} {oc_own dc_own pm_own cd_own ct_own kV_own : Value}
    (a_own : PySem.W.findIn K (.ref C) "own" = some (some (.ref f_own)))
    (i_own : PySem.W.isFn K (.ref f_own) = true)
    (l_own : K.lookup f_own = some ⟨oc_own, od_own, .func (PySem.W.fnOf "own" "Sizes.own" (defArgs s_Sizes_own) (defBody s_Sizes_own) (defScope s_Sizes_own) .none kV_own dc_own pm_own an_own cd_own ct_own), sl_own⟩)
    (c_own : PySem.W.codeIn K cd_own "Sizes.own" = true)
    (k_own : PySem.W.keepIn K (.ref f_own) = true)
    {f_hidden : Addr} {od_hidden an_hidden : Option Addr} {sl_hidden : Array (Option Value)} {oc_hidden dc_hidden pm_hidden cd_hidden ct_hidden kV_hidden : Value}
    (a_hidden : PySem.W.findIn K (.ref C) "hidden" = some (some (.ref f_hidden)))
    (i_hidden : PySem.W.isFn K (.ref f_hidden) = true)
    (l_hidden : K.lookup f_hidden = some ⟨oc_hidden, od_hidden, .func (PySem.W.fnOf "hidden" "Sizes.hidden" (defArgs s_Sizes_hidden) (defBody s_Sizes_hidden) (defScope s_Sizes_hidden) .none kV_hidden dc_hidden pm_hidden an_hidden cd_hidden ct_hidden), sl_hidden⟩)
    (c_hidden : PySem.W.codeIn K cd_hidden "Sizes.hidden" = true)
    (k_hidden : PySem.W.keepIn K (.ref f_hidden) = true)
    {f_ahead : Addr} {od_ahead an_ahead : Option Addr} {sl_ahead : Array (Option Value)} {oc_ahead dc_ahead pm_ahead cd_ahead ct_ahead kV_ahead : Value}
    (a_ahead : PySem.W.findIn K (.ref C) "ahead" = some (some (.ref f_ahead)))
    (i_ahead : PySem.W.isFn K (.ref f_ahead) = true)
    (l_ahead : K.lookup f_ahead = some ⟨oc_ahead, od_ahead, .func (PySem.W.fnOf "ahead" "Sizes.ahead" (defArgs s_Sizes_ahead) (defBody s_Sizes_ahead) (defScope s_Sizes_ahead) .none kV_ahead dc_ahead pm_ahead an_ahead cd_ahead ct_ahead), sl_ahead⟩)
    (c_ahead : PySem.W.codeIn K cd_ahead "Sizes.ahead" = true)
    (k_ahead : PySem.W.keepIn K (.ref f_ahead) = true)
    {f_total : Addr} {od_total an_total : Option Addr} {sl_total : Array (Option Value)} {oc_total dc_total pm_total cd_total ct_total kV_total : Value}
    (a_total : PySem.W.findIn K (.ref C) "total" = some (some (.ref f_total)))
    (i_total : PySem.W.isFn K (.ref f_total) = true)
    (l_total : K.lookup f_total = some ⟨oc_total, od_total, .func (PySem.W.fnOf "total" "Sizes.total" (defArgs s_Sizes_total) (defBody s_Sizes_total) (defScope s_Sizes_total) .none kV_total dc_total pm_total an_total cd_total ct_total), sl_total⟩)
    (c_total : PySem.W.codeIn K cd_total "Sizes.total" = true)
    (k_total : PySem.W.keepIn K (.ref f_total) = true)
    {f_at : Addr} {od_at an_at : Option Addr} {sl_at : Array (Option Value)} {oc_at dc_at pm_at cd_at ct_at kV_at : Value}
    (a_at : PySem.W.findIn K (.ref C) "at" = some (some (.ref f_at)))
    (i_at : PySem.W.isFn K (.ref f_at) = true)
    (l_at : K.lookup f_at = some ⟨oc_at, od_at, .func (PySem.W.fnOf "at" "Sizes.at" (defArgs s_Sizes_at) (defBody s_Sizes_at) (defScope s_Sizes_at) .none kV_at dc_at pm_at an_at cd_at ct_at), sl_at⟩)
    (c_at : PySem.W.codeIn K cd_at "Sizes.at" = true)
    (k_at : PySem.W.keepIn K (.ref f_at) = true)
    {f_exceptions : Addr} {od_exceptions an_exceptions : Option Addr} {sl_exceptions : Array (Option Value)} {oc_exceptions dc_exceptions pm_exceptions cd_exceptions ct_exceptions kV_exceptions : Value}
    (a_exceptions : PySem.W.findIn K (.ref C) "exceptions" = some (some (.ref f_exceptions)))
    (i_exceptions : PySem.W.isFn K (.ref f_exceptions) = true)
    (l_exceptions : K.lookup f_exceptions = some ⟨oc_exceptions, od_exceptions, .func (PySem.W.fnOf "exceptions" "Sizes.exceptions" (defArgs s_Sizes_exceptions) (defBody s_Sizes_exceptions) (defScope s_Sizes_exceptions) .none kV_exceptions dc_exceptions pm_exceptions an_exceptions cd_exceptions ct_exceptions), sl_exceptions⟩)
    (c_exceptions : PySem.W.codeIn K cd_exceptions "Sizes.exceptions" = true)
    (k_exceptions : PySem.W.keepIn K (.ref f_exceptions) = true)
    {f_repr : Addr} {od_repr an_repr : Option Addr} {sl_repr : Array (Option Value)} {oc_repr dc_repr pm_repr cd_repr ct_repr kV_repr : Value}
    (a_repr : PySem.W.findIn K (.ref C) "__repr__" = some (some (.ref f_repr)))
    (i_repr : PySem.W.isFn K (.ref f_repr) = true)
    (l_repr : K.lookup f_repr = some ⟨oc_repr, od_repr, .func (PySem.W.fnOf "__repr__" "Sizes.__repr__" (defArgs s_Sizes_repr) (defBody s_Sizes_repr) (defScope s_Sizes_repr) .none kV_repr dc_repr pm_repr an_repr cd_repr ct_repr), sl_repr⟩)
    (c_repr : PySem.W.codeIn K cd_repr "Sizes.__repr__" = true)
    (k_repr : PySem.W.keepIn K (.ref f_repr) = true)
    {f_keep : Addr} {od_keep an_keep : Option Addr} {sl_keep : Array (Option Value)} {oc_keep dc_keep pm_keep cd_keep ct_keep kV_keep : Value}
    (a_keep : PySem.W.findIn K (.ref C) "keep" = some (some (.ref f_keep)))
    (i_keep : PySem.W.isFn K (.ref f_keep) = true)
    (l_keep : K.lookup f_keep = some ⟨oc_keep, od_keep, .func (PySem.W.fnOf "keep" "Sizes.keep" (defArgs s_Sizes_keep) (defBody s_Sizes_keep) (defScope s_Sizes_keep) .none kV_keep dc_keep pm_keep an_keep cd_keep ct_keep), sl_keep⟩)
    (c_keep : PySem.W.codeIn K cd_keep "Sizes.keep" = true)
    (k_keep : PySem.W.keepIn K (.ref f_keep) = true)
    {f_give : Addr} {od_give an_give : Option Addr} {sl_give : Array (Option Value)} {oc_give dc_give pm_give cd_give ct_give kV_give : Value}
    (a_give : PySem.W.findIn K (.ref C) "give" = some (some (.ref f_give)))
    (i_give : PySem.W.isFn K (.ref f_give) = true)
    (l_give : K.lookup f_give = some ⟨oc_give, od_give, .func (PySem.W.fnOf "give" "Sizes.give" (defArgs s_Sizes_give) (defBody s_Sizes_give) (defScope s_Sizes_give) .none kV_give dc_give pm_give an_give cd_give ct_give), sl_give⟩)
    (c_give : PySem.W.codeIn K cd_give "Sizes.give" = true)
    (k_give : PySem.W.keepIn K (.ref f_give) = true)
    {f_hide : Addr} {od_hide an_hide : Option Addr} {sl_hide : Array (Option Value)} {oc_hide dc_hide pm_hide cd_hide ct_hide kV_hide : Value}
    (a_hide : PySem.W.findIn K (.ref C) "hide" = some (some (.ref f_hide)))
    (i_hide : PySem.W.isFn K (.ref f_hide) = true)
    (l_hide : K.lookup f_hide = some ⟨oc_hide, od_hide, .func (PySem.W.fnOf "hide" "Sizes.hide" (defArgs s_Sizes_hide) (defBody s_Sizes_hide) (defScope s_Sizes_hide) .none kV_hide dc_hide pm_hide an_hide cd_hide ct_hide), sl_hide⟩)
    (c_hide : PySem.W.codeIn K cd_hide "Sizes.hide" = true)
    (k_hide : PySem.W.keepIn K (.ref f_hide) = true)
    {f_put : Addr} {od_put an_put : Option Addr} {sl_put : Array (Option Value)} {oc_put dc_put pm_put cd_put ct_put kV_put : Value}
    (a_put : PySem.W.findIn K (.ref C) "put" = some (some (.ref f_put)))
    (i_put : PySem.W.isFn K (.ref f_put) = true)
    (l_put : K.lookup f_put = some ⟨oc_put, od_put, .func (PySem.W.fnOf "put" "Sizes.put" (defArgs s_Sizes_put) (defBody s_Sizes_put) (defScope s_Sizes_put) .none kV_put dc_put pm_put an_put cd_put ct_put), sl_put⟩)
    (c_put : PySem.W.codeIn K cd_put "Sizes.put" = true)
    (k_put : PySem.W.keepIn K (.ref f_put) = true)
    {f_cut : Addr} {od_cut an_cut : Option Addr} {sl_cut : Array (Option Value)} {oc_cut dc_cut pm_cut cd_cut ct_cut kV_cut : Value}
    (a_cut : PySem.W.findIn K (.ref C) "cut" = some (some (.ref f_cut)))
    (i_cut : PySem.W.isFn K (.ref f_cut) = true)
    (l_cut : K.lookup f_cut = some ⟨oc_cut, od_cut, .func (PySem.W.fnOf "cut" "Sizes.cut" (defArgs s_Sizes_cut) (defBody s_Sizes_cut) (defScope s_Sizes_cut) .none kV_cut dc_cut pm_cut an_cut cd_cut ct_cut), sl_cut⟩)
    (c_cut : PySem.W.codeIn K cd_cut "Sizes.cut" = true)
    (k_cut : PySem.W.keepIn K (.ref f_cut) = true)
    {f_init : Addr} {od_init an_init : Option Addr} {sl_init : Array (Option Value)} {oc_init dc_init pm_init cd_init ct_init : Value}
    (a_init : PySem.W.findIn K (.ref C) "__init__" = some (some (.ref f_init)))
    (i_init : PySem.W.isFn K (.ref f_init) = true)
    (l_init : K.lookup f_init = some ⟨oc_init, od_init, .func (PySem.W.fnOf "__init__" "Sizes.__init__" (defArgs s_Sizes_init) (defBody s_Sizes_init) (defScope s_Sizes_init) .none kV_init dc_init pm_init an_init cd_init ct_init), sl_init⟩)
    (c_init : PySem.W.codeIn K cd_init "Sizes.__init__" = true)
    (k_init : PySem.W.keepIn K (.ref f_init) = true)
    (z_max : PySem.W.nsIn K mainGlobals "max" = some none)
    (z_min : PySem.W.nsIn K mainGlobals "min" = some none)
    (z_len : PySem.W.nsIn K mainGlobals "len" = some none)
    (z_list : PySem.W.nsIn K mainGlobals "list" = some none)
    (z_isinstance : PySem.W.nsIn K mainGlobals "isinstance" = some none)
    (z_bool : PySem.W.nsIn K mainGlobals "bool" = some none)
    (z_int : PySem.W.nsIn K mainGlobals "int" = some none)
    (z_str : PySem.W.nsIn K mainGlobals "str" = some none)
    (z_tuple : PySem.W.nsIn K mainGlobals "tuple" = some none)
    (z_range : PySem.W.nsIn K mainGlobals "range" = some none)
    (z_all : PySem.W.nsIn K mainGlobals "all" = some none)
    (z_sum : PySem.W.nsIn K mainGlobals "sum" = some none)
    (z_sorted : PySem.W.nsIn K mainGlobals "sorted" = some none)
    (z_any : PySem.W.nsIn K mainGlobals "any" = some none)
    (z_dict : PySem.W.nsIn K mainGlobals "dict" = some none)
    (z_repr : PySem.W.nsIn K mainGlobals "repr" = some none)
    (g_GREATEST_SIZE : PySem.W.nsIn K mainGlobals "GREATEST_SIZE" = some (some (.int 60 tG)))
    (g_MOST_THINGS : PySem.W.nsIn K mainGlobals "MOST_THINGS" = some (some (.int 1000000 tM)))
    (g_MOST_ODD : PySem.W.nsIn K mainGlobals "MOST_ODD" = some (some (.int 60 tQ)))
    (g_MOST_PUT : PySem.W.nsIn K mainGlobals "MOST_PUT" = some (some (.int 1000 tR)))
    (p_Sizes : PySem.W.plainGet K C Str.empty = true)
    (hd_Sizes : PySem.W.hasDictIn K C = true)
    (po_Sizes : PySem.W.plainOver K C = true)
    (sa_Sizes : PySem.W.findIn K (.ref C) "__setattr__" = some (some (.builtin "object.__setattr__")))
    (n_Sizes_many : PySem.W.findIn K (.ref C) "many" = some none)
    (n_Sizes_common : PySem.W.findIn K (.ref C) "common" = some none)
    (n_Sizes_odd : PySem.W.findIn K (.ref C) "odd" = some none)
    (g_Sizes : PySem.W.nsIn K mainGlobals "Sizes" = some (some (.ref C)))
    (mk_Sizes : PySem.W.makesIn K C = true)
    (kc_Sizes : PySem.W.keepIn K (.ref C) = true)
    (ia_Sizes : PySem.W.findIn K (.ref C) "__class__" = some (some (.builtin "object.__class__")))
    (io : PySem.W.specialIn K (.builtin "object.__class__") "__get__" = some (some (.builtin "getset_descriptor.__get__")))
    (it : PySem.W.takesIn K (.builtin "object.__class__") = some true)
    (im_Sizes : PySem.W.mroIn K C (.type "object") = some true)
    (e_NoIndex : PySem.W.nsIn K mainGlobals "NoIndex" = some (some (.ref cN)))
    (ex_NoIndex : PySem.W.excIn K cN ieL "IndexError.__new__" = true)
    (ek_NoIndex : PySem.W.keepIn K (.ref cN) = true)
    (eb_NoIndex : PySem.W.subIn K (.ref cN) (.type "BaseException") = some true)
    (et_NoIndex : PySem.W.typeIn K (.ref cN) = some (.type "type"))
    (ec_NoIndex : PySem.W.isClsIn K cN = true)
    (es_NoIndex : PySem.W.subIn K (.ref cN) (.ref cN) = some true)
    (e_BadMany : PySem.W.nsIn K mainGlobals "BadMany" = some (some (.ref cM)))
    (ex_BadMany : PySem.W.excIn K cM veL "ValueError.__new__" = true)
    (ek_BadMany : PySem.W.keepIn K (.ref cM) = true)
    (eb_BadMany : PySem.W.subIn K (.ref cM) (.type "BaseException") = some true)
    (et_BadMany : PySem.W.typeIn K (.ref cM) = some (.type "type"))
    (ec_BadMany : PySem.W.isClsIn K cM = true)
    (es_BadMany : PySem.W.subIn K (.ref cM) (.ref cM) = some true)
    (e_BadSize : PySem.W.nsIn K mainGlobals "BadSize" = some (some (.ref cS)))
    (ex_BadSize : PySem.W.excIn K cS veL "ValueError.__new__" = true)
    (ek_BadSize : PySem.W.keepIn K (.ref cS) = true)
    (eb_BadSize : PySem.W.subIn K (.ref cS) (.type "BaseException") = some true)
    (et_BadSize : PySem.W.typeIn K (.ref cS) = some (.type "type"))
    (ec_BadSize : PySem.W.isClsIn K cS = true)
    (es_BadSize : PySem.W.subIn K (.ref cS) (.ref cS) = some true)
    (e_NoPoint : PySem.W.nsIn K mainGlobals "NoPoint" = some (some (.ref cP)))
    (ex_NoPoint : PySem.W.excIn K cP ieL "IndexError.__new__" = true)
    (ek_NoPoint : PySem.W.keepIn K (.ref cP) = true)
    (eb_NoPoint : PySem.W.subIn K (.ref cP) (.type "BaseException") = some true)
    (et_NoPoint : PySem.W.typeIn K (.ref cP) = some (.type "type"))
    (ec_NoPoint : PySem.W.isClsIn K cP = true)
    (es_NoPoint : PySem.W.subIn K (.ref cP) (.ref cP) = some true)
    (e_Full : PySem.W.nsIn K mainGlobals "Full" = some (some (.ref cF)))
    (ex_Full : PySem.W.excIn K cF veL "ValueError.__new__" = true)
    (ek_Full : PySem.W.keepIn K (.ref cF) = true)
    (eb_Full : PySem.W.subIn K (.ref cF) (.type "BaseException") = some true)
    (et_Full : PySem.W.typeIn K (.ref cF) = some (.type "type"))
    (ec_Full : PySem.W.isClsIn K cF = true)
    (es_Full : PySem.W.subIn K (.ref cF) (.ref cF) = some true)
    : ∃ fd : FuncData, (∀ (s : Shared) (v : Value), BindsTo s fd ⟨[v], []⟩ [("_law_script", v)]) ∧ ∀ base : Heap, K.In base → base.Ns mainGlobals mg → FnOk l.prog w K mg base CX0 7 fa fd ["_law_script"] (spLaw K) := by
  have e := hfa.symm.trans (PySem.W.mg_of X G a_law)
  cases e
  have T : Tx K mg C cN cP cM cS cF tG tM tQ tR := ⟨PySem.W.mg_none_of X G z_max, PySem.W.mg_none_of X G z_min, PySem.W.mg_none_of X G z_len, PySem.W.mg_none_of X G z_list, PySem.W.mg_none_of X G z_isinstance, PySem.W.mg_none_of X G z_bool, PySem.W.mg_none_of X G z_int, PySem.W.mg_none_of X G z_str, PySem.W.mg_none_of X G z_tuple, PySem.W.mg_none_of X G z_range, PySem.W.mg_none_of X G z_all, PySem.W.mg_none_of X G z_sum, PySem.W.mg_none_of X G z_sorted, PySem.W.mg_none_of X G z_any, PySem.W.mg_none_of X G z_dict, PySem.W.mg_none_of X G z_repr, PySem.W.mg_of X G g_GREATEST_SIZE, PySem.W.mg_of X G g_MOST_THINGS, ⟨p_Sizes, hd_Sizes, po_Sizes, sa_Sizes⟩, n_Sizes_many, n_Sizes_common, n_Sizes_odd, PySem.W.mg_of X G g_Sizes, ⟨⟨p_Sizes, hd_Sizes, po_Sizes, sa_Sizes⟩, ia_Sizes, io, it, im_Sizes, kit_same⟩, ⟨PySem.W.mg_of X G e_NoIndex, ex_NoIndex, ek_NoIndex, eb_NoIndex, et_NoIndex, ec_NoIndex, es_NoIndex⟩, ⟨PySem.W.mg_of X G e_BadMany, ex_BadMany, ek_BadMany, eb_BadMany, et_BadMany, ec_BadMany, es_BadMany⟩, ⟨PySem.W.mg_of X G e_BadSize, ex_BadSize, ek_BadSize, eb_BadSize, et_BadSize, ec_BadSize, es_BadSize⟩, ⟨PySem.W.mg_of X G e_NoPoint, ex_NoPoint, ek_NoPoint, eb_NoPoint, et_NoPoint, ec_NoPoint, es_NoPoint⟩, ⟨PySem.W.mg_of X G e_Full, ex_Full, ek_Full, eb_Full, et_Full, ec_Full, es_Full⟩, PySem.W.mg_of X G g_MOST_ODD, PySem.W.mg_of X G g_MOST_PUT⟩
  have F_begin := fun_mk (st := s_begin) l_begin c_begin k_begin
  have b_begin := F_begin.binds (ps := ["_law_script"]) fun _ _ _ _ _ _ us hl => match us, hl with | [_], _ => rfl
  have m_begin := PySem.W.mg_of X G a_begin
  have F_pick := fun_mk (st := s_pick) l_pick c_pick k_pick
  have b_pick := F_pick.binds (ps := ["_law_draw", "_law_many"]) fun _ _ _ _ _ _ us hl => match us, hl with | [_, _], _ => rfl
  have m_pick := PySem.W.mg_of X G a_pick
  have F_check_size := fun_mk (st := s_check_size) l_check_size c_check_size k_check_size
  have b_check_size := F_check_size.binds (ps := ["size"]) fun _ _ _ _ _ _ us hl => match us, hl with | [_], _ => rfl
  have m_check_size := PySem.W.mg_of X G a_check_size
  have F_check_number := fun_mk (st := s_check_number) l_check_number c_check_number k_check_number
  have b_check_number := F_check_number.binds (ps := ["number", "count"]) fun _ _ _ _ _ _ us hl => match us, hl with | [_, _], _ => rfl
  have m_check_number := PySem.W.mg_of X G a_check_number
  have F_z_odd := fun_mk (st := s_z_odd) l_z_odd c_z_odd k_z_odd
  have b_z_odd := F_z_odd.binds (ps := ["_law_z_here"]) fun _ _ _ _ _ _ us hl => match us, hl with | [_], _ => rfl
  have m_z_odd := PySem.W.mg_of X G a_z_odd
  have F_z_size := fun_mk (st := s_z_size) l_z_size c_z_size k_z_size
  have b_z_size := F_z_size.binds (ps := ["_law_z_here", "_law_k"]) fun _ _ _ _ _ _ us hl => match us, hl with | [_, _], _ => rfl
  have m_z_size := PySem.W.mg_of X G a_z_size
  have F_z_ahead := fun_mk (st := s_z_ahead) l_z_ahead c_z_ahead k_z_ahead
  have b_z_ahead := F_z_ahead.binds (ps := ["_law_z_here", "_law_k"]) fun _ _ _ _ _ _ us hl => match us, hl with | [_, _], _ => rfl
  have m_z_ahead := PySem.W.mg_of X G a_z_ahead
  have F_same := fun_mk (st := s_same) l_same c_same k_same
  have b_same := F_same.binds (ps := ["_law_found", "_law_due"]) fun _ _ _ _ _ _ us hl => match us, hl with | [_, _], _ => rfl
  have m_same := PySem.W.mg_of X G a_same
  have F_z_stands := fun_mk (st := s_z_stands) l_z_stands c_z_stands k_z_stands
  have b_z_stands := F_z_stands.binds (ps := ["_law_sizes", "_law_z_here", "_law_some"]) fun _ _ _ _ _ _ us hl => match us, hl with | [_, _, _], _ => rfl
  have m_z_stands := PySem.W.mg_of X G a_z_stands
  have F_z := fun_mk (st := s_z) l_z c_z k_z
  have b_z := F_z.binds (ps := ["_law_many", "_law_usual"]) fun _ _ _ _ _ _ us hl => match us, hl with | [_, _], _ => rfl
  have m_z := PySem.W.mg_of X G a_z
  have F_z_with := fun_mk (st := s_z_with) l_z_with c_z_with k_z_with
  have b_z_with := F_z_with.binds (ps := ["_law_z_here", "_law_k", "_law_size", "_law_hidden"]) fun _ _ _ _ _ _ us hl => match us, hl with | [_, _, _, _], _ => rfl
  have m_z_with := PySem.W.mg_of X G a_z_with
  have F_z_set := fun_mk (st := s_z_set) l_z_set c_z_set k_z_set
  have b_z_set := F_z_set.binds (ps := ["_law_z_here", "_law_k", "_law_size"]) fun _ _ _ _ _ _ us hl => match us, hl with | [_, _, _], _ => rfl
  have m_z_set := PySem.W.mg_of X G a_z_set
  have F_z_hide := fun_mk (st := s_z_hide) l_z_hide c_z_hide k_z_hide
  have b_z_hide := F_z_hide.binds (ps := ["_law_z_here", "_law_k", "_law_hidden"]) fun _ _ _ _ _ _ us hl => match us, hl with | [_, _, _], _ => rfl
  have m_z_hide := PySem.W.mg_of X G a_z_hide
  have F_go_on := fun_mk (st := s_go_on) l_go_on c_go_on k_go_on
  have b_go_on := F_go_on.binds (ps := ["_law_way", "_law_at", "_law_many", "_law_k"]) fun _ _ _ _ _ _ us hl => match us, hl with | [_, _, _, _], _ => rfl
  have m_go_on := PySem.W.mg_of X G a_go_on
  have F_z_on := fun_mk (st := s_z_on) l_z_on c_z_on k_z_on
  have b_z_on := F_z_on.binds (ps := ["_law_z_here", "_law_way", "_law_at", "_law_many"]) fun _ _ _ _ _ _ us hl => match us, hl with | [_, _, _, _], _ => rfl
  have m_z_on := PySem.W.mg_of X G a_z_on
  have F_z_put := fun_mk (st := s_z_put) l_z_put c_z_put k_z_put
  have b_z_put := F_z_put.binds (ps := ["_law_z_here", "_law_at", "_law_many"]) fun _ _ _ _ _ _ us hl => match us, hl with | [_, _, _], _ => rfl
  have m_z_put := PySem.W.mg_of X G a_z_put
  have F_z_cut := fun_mk (st := s_z_cut) l_z_cut c_z_cut k_z_cut
  have b_z_cut := F_z_cut.binds (ps := ["_law_z_here", "_law_at", "_law_many"]) fun _ _ _ _ _ _ us hl => match us, hl with | [_, _, _], _ => rfl
  have m_z_cut := PySem.W.mg_of X G a_z_cut
  have F_z_at := fun_mk (st := s_z_at) l_z_at c_z_at k_z_at
  have b_z_at := F_z_at.binds (ps := ["_law_z_here", "_law_point"]) fun _ _ _ _ _ _ us hl => match us, hl with | [_, _], _ => rfl
  have m_z_at := PySem.W.mg_of X G a_z_at
  have F_law := fun_mk (st := s_law) l_law c_law k_law
  have F_state := fun_mk (st := s_Sizes_state) l_state c_state k_state
  have b_state := F_state.binds (ps := ["self", "number"]) fun _ _ _ _ _ _ us hl => match us, hl with | [_, _], _ => rfl
  have me_state : Meth K C "state" f_state := ⟨a_state, i_state, k_state⟩
  have F_size := fun_mk (st := s_Sizes_size) l_size c_size k_size
  have b_size := F_size.binds (ps := ["self", "number"]) fun _ _ _ _ _ _ us hl => match us, hl with | [_, _], _ => rfl
  have me_size : Meth K C "size" f_size := ⟨a_size, i_size, k_size⟩
  have F_own := fun_mk (st := s_Sizes_own) l_own c_own k_own
  have b_own := F_own.binds (ps := ["self", "number"]) fun _ _ _ _ _ _ us hl => match us, hl with | [_, _], _ => rfl
  have me_own : Meth K C "own" f_own := ⟨a_own, i_own, k_own⟩
  have F_hidden := fun_mk (st := s_Sizes_hidden) l_hidden c_hidden k_hidden
  have b_hidden := F_hidden.binds (ps := ["self", "number"]) fun _ _ _ _ _ _ us hl => match us, hl with | [_, _], _ => rfl
  have me_hidden : Meth K C "hidden" f_hidden := ⟨a_hidden, i_hidden, k_hidden⟩
  have F_ahead := fun_mk (st := s_Sizes_ahead) l_ahead c_ahead k_ahead
  have b_ahead := F_ahead.binds (ps := ["self", "number"]) fun _ _ _ _ _ _ us hl => match us, hl with | [_, _], _ => rfl
  have me_ahead : Meth K C "ahead" f_ahead := ⟨a_ahead, i_ahead, k_ahead⟩
  have F_total := fun_mk (st := s_Sizes_total) l_total c_total k_total
  have b_total := F_total.binds (ps := ["self"]) fun _ _ _ _ _ _ us hl => match us, hl with | [_], _ => rfl
  have me_total : Meth K C "total" f_total := ⟨a_total, i_total, k_total⟩
  have F_at := fun_mk (st := s_Sizes_at) l_at c_at k_at
  have b_at := F_at.binds (ps := ["self", "point"]) fun _ _ _ _ _ _ us hl => match us, hl with | [_, _], _ => rfl
  have me_at : Meth K C "at" f_at := ⟨a_at, i_at, k_at⟩
  have F_exceptions := fun_mk (st := s_Sizes_exceptions) l_exceptions c_exceptions k_exceptions
  have b_exceptions := F_exceptions.binds (ps := ["self"]) fun _ _ _ _ _ _ us hl => match us, hl with | [_], _ => rfl
  have me_exceptions : Meth K C "exceptions" f_exceptions := ⟨a_exceptions, i_exceptions, k_exceptions⟩
  have F_repr := fun_mk (st := s_Sizes_repr) l_repr c_repr k_repr
  have b_repr := F_repr.binds (ps := ["self"]) fun _ _ _ _ _ _ us hl => match us, hl with | [_], _ => rfl
  have me_repr : Meth K C "__repr__" f_repr := ⟨a_repr, i_repr, k_repr⟩
  have F_keep := fun_mk (st := s_Sizes_keep) l_keep c_keep k_keep
  have b_keep := F_keep.binds (ps := ["self", "number", "own", "hidden"]) fun _ _ _ _ _ _ us hl => match us, hl with | [_, _, _, _], _ => rfl
  have me_keep : Meth K C "keep" f_keep := ⟨a_keep, i_keep, k_keep⟩
  have F_give := fun_mk (st := s_Sizes_give) l_give c_give k_give
  have b_give := F_give.binds (ps := ["self", "number", "size"]) fun _ _ _ _ _ _ us hl => match us, hl with | [_, _, _], _ => rfl
  have me_give : Meth K C "give" f_give := ⟨a_give, i_give, k_give⟩
  have F_hide := fun_mk (st := s_Sizes_hide) l_hide c_hide k_hide
  have b_hide := F_hide.binds (ps := ["self", "number"]) fun _ _ _ _ _ _ us hl => match us, hl with | [_, _], _ => rfl
  have me_hide : Meth K C "hide" f_hide := ⟨a_hide, i_hide, k_hide⟩
  have F_put := fun_mk (st := s_Sizes_put) l_put c_put k_put
  have b_put := F_put.binds (ps := ["self", "number", "many"]) fun _ _ _ _ _ _ us hl => match us, hl with | [_, _, _], _ => rfl
  have me_put : Meth K C "put" f_put := ⟨a_put, i_put, k_put⟩
  have F_cut := fun_mk (st := s_Sizes_cut) l_cut c_cut k_cut
  have b_cut := F_cut.binds (ps := ["self", "number", "many"]) fun _ _ _ _ _ _ us hl => match us, hl with | [_, _, _], _ => rfl
  have me_cut : Meth K C "cut" f_cut := ⟨a_cut, i_cut, k_cut⟩
  have F_init := fun_mk (st := s_Sizes_init) l_init c_init k_init
  refine ⟨PySem.W.fnOf "law" "law" (defArgs s_law) (defBody s_law) (defScope s_law) .none kV_law dc_law pm_law an_law cd_law ct_law, fun s v => .of_eq rfl, fun base _ _ => ?_⟩
  have D_begin : Dn l.prog w K mg base CX0 1 "_law_begin" ["_law_script"] (spBegin K) := ⟨_, _, ok_begin F_begin T, m_begin, k_begin, b_begin⟩
  have D_pick : Dn l.prog w K mg base CX0 1 "_law_pick" ["_law_draw", "_law_many"] spPick := ⟨_, _, ok_pick F_pick T, m_pick, k_pick, b_pick⟩
  have D_check_size : Dn l.prog w K mg base (L2.CX l.prog w) 1 "check_size" ["size"] (spCS cS) := ⟨_, _, ok_cs F_check_size T, m_check_size, k_check_size, b_check_size⟩
  have D_check_number : Dn l.prog w K mg base (L2.CX l.prog w) 1 "check_number" ["number", "count"] (spNum cN) := ⟨_, _, ok_cn F_check_number T, m_check_number, k_check_number, b_check_number⟩
  have M_state : Mn l.prog w K mg base (L2.CX l.prog w) 2 C "state" ["self", "number"] (spState C cN) := ⟨_, _, ok_state F_state T D_check_number, me_state, b_state⟩
  have M_size : Mn l.prog w K mg base (L2.CX l.prog w) 3 C "size" ["self", "number"] (spSize C cN) := ⟨_, _, ok_size F_size T M_state, me_size, b_size⟩
  have M_own : Mn l.prog w K mg base (L2.CX l.prog w) 3 C "own" ["self", "number"] (spOwn C cN) := ⟨_, _, ok_own F_own T M_state, me_own, b_own⟩
  have M_hidden : Mn l.prog w K mg base (L2.CX l.prog w) 3 C "hidden" ["self", "number"] (spHid C cN) := ⟨_, _, ok_hidden F_hidden T M_state, me_hidden, b_hidden⟩
  have M_ahead : Mn l.prog w K mg base (L2.CX l.prog w) 4 C "ahead" ["self", "number"] (spAhead C cN) := ⟨_, _, ok_ahead F_ahead T D_check_number M_size, me_ahead, b_ahead⟩
  have M_total : Mn l.prog w K mg base CX0 5 C "total" ["self"] (spTotal C) := ⟨_, _, ok_total F_total T M_ahead, me_total, b_total⟩
  have M_at : Mn l.prog w K mg base (L2.CX l.prog w) 6 C "at" ["self", "point"] (spAt C cP) := ⟨_, _, ok_at F_at T M_size M_total, me_at, b_at⟩
  have M_exceptions : Mn l.prog w K mg base CX0 4 C "exceptions" ["self"] (spExc K C) := ⟨_, _, ok_exceptions F_exceptions T M_own M_hidden, me_exceptions, b_exceptions⟩
  have M_repr : Mn l.prog w K mg base CX0 1 C "__repr__" ["self"] (spRepr C) := ⟨_, _, ok_repr F_repr T, me_repr, b_repr⟩
  have M_keep : Mn l.prog w K mg base (L2.CX l.prog w) 1 C "keep" ["self", "number", "own", "hidden"] (spKeep C cF) := ⟨_, _, ok_keep F_keep T, me_keep, b_keep⟩
  have M_give : Mn l.prog w K mg base (L2.CX l.prog w) 4 C "give" ["self", "number", "size"] (spGive C cN cS cF) := ⟨_, _, ok_give F_give T D_check_size M_own M_hidden M_keep, me_give, b_give⟩
  have M_hide : Mn l.prog w K mg base (L2.CX l.prog w) 4 C "hide" ["self", "number"] (spTo C cN cF gHide) := ⟨_, _, ok_hide F_hide T M_own M_hidden M_keep, me_hide, b_hide⟩
  have M_put : Mn l.prog w K mg base (L2.CX l.prog w) 2 C "put" ["self", "number", "many"] (spPut C cN cM) := ⟨_, _, ok_put F_put T D_check_number, me_put, b_put⟩
  have M_cut : Mn l.prog w K mg base (L2.CX l.prog w) 2 C "cut" ["self", "number", "many"] (spCut C cN cM) := ⟨_, _, ok_cut F_cut T D_check_number, me_cut, b_cut⟩
  have D_z_odd : Dn l.prog w K mg base CX0 1 "_law_z_odd" ["_law_z_here"] spZodd := ⟨_, _, ok_z_odd F_z_odd T, m_z_odd, k_z_odd, b_z_odd⟩
  have D_z_size : Dn l.prog w K mg base CX0 1 "_law_z_size" ["_law_z_here", "_law_k"] spZsize := ⟨_, _, ok_z_size F_z_size T, m_z_size, k_z_size, b_z_size⟩
  have D_z_ahead : Dn l.prog w K mg base CX0 2 "_law_z_ahead" ["_law_z_here", "_law_k"] spZahead := ⟨_, _, ok_z_ahead F_z_ahead T D_z_odd D_z_size, m_z_ahead, k_z_ahead, b_z_ahead⟩
  have D_same := same_all (P := l.prog) (w := w) (base := base) F_same T b_same m_same k_same
  have D_z_stands : Dn l.prog w K mg base CX0 6 "_law_z_stands" ["_law_sizes", "_law_z_here", "_law_some"] (spZst K C) := ⟨_, _, ok_z_stands F_z_stands T D_z_odd D_z_size D_z_ahead (D_same 4) M_size M_own M_hidden M_ahead M_total M_exceptions M_repr, m_z_stands, k_z_stands, b_z_stands⟩
  have D_z : Dn l.prog w K mg base CX0 1 "_law_z" ["_law_many", "_law_usual"] spZnew := ⟨_, _, ok_z F_z T, m_z, k_z, b_z⟩
  have D_z_with : Dn l.prog w K mg base CX0 1 "_law_z_with" ["_law_z_here", "_law_k", "_law_size", "_law_hidden"] spZwith := ⟨_, _, ok_z_with F_z_with T, m_z_with, k_z_with, b_z_with⟩
  have D_z_set : Dn l.prog w K mg base CX0 2 "_law_z_set" ["_law_z_here", "_law_k", "_law_size"] spZset := ⟨_, _, ok_z_set F_z_set T D_z_with, m_z_set, k_z_set, b_z_set⟩
  have D_z_hide : Dn l.prog w K mg base CX0 2 "_law_z_hide" ["_law_z_here", "_law_k", "_law_hidden"] spZhide := ⟨_, _, ok_z_hide F_z_hide T D_z_with, m_z_hide, k_z_hide, b_z_hide⟩
  have okI := ok_init (P := l.prog) (w := w) (base := base) F_init T D_check_size
  have mkI : Mk K C f_init := ⟨mk_Sizes, a_init, i_init, kc_Sizes⟩
  have D_Sizes : Cn l.prog w K mg base (L2.CX l.prog w) 2 C "Sizes" (spInit C cM cS) := ⟨_, _, okI, mkI, T.mgC, ⟨fun s us ws _ l1 l2 => .of_eq (match us, ws, l1, l2 with | [_, _], [_], _, _ => rfl), fun r1 r2 => Vals.append r1 r2⟩⟩
  have D_go_on : Dn l.prog w K mg base CX0 1 "_law_go_on" ["_law_way", "_law_at", "_law_many", "_law_k"] spGo := ⟨_, _, ok_go_on F_go_on T, m_go_on, k_go_on, b_go_on⟩
  have D_z_on : Dn l.prog w K mg base CX0 2 "_law_z_on" ["_law_z_here", "_law_way", "_law_at", "_law_many"] spZon := ⟨_, _, ok_z_on F_z_on T D_z D_go_on, m_z_on, k_z_on, b_z_on⟩
  have D_z_put : Dn l.prog w K mg base CX0 3 "_law_z_put" ["_law_z_here", "_law_at", "_law_many"] (spZmv true) := ⟨_, _, ok_z_put F_z_put T D_z_on, m_z_put, k_z_put, b_z_put⟩
  have D_z_cut : Dn l.prog w K mg base CX0 3 "_law_z_cut" ["_law_z_here", "_law_at", "_law_many"] (spZmv false) := ⟨_, _, ok_z_cut F_z_cut T D_z_on, m_z_cut, k_z_cut, b_z_cut⟩
  have D_z_at : Dn l.prog w K mg base CX0 3 "_law_z_at" ["_law_z_here", "_law_point"] spZat := ⟨_, _, ok_z_at F_z_at T D_z_ahead, m_z_at, k_z_at, b_z_at⟩
  exact ok_law F_law T D_begin D_pick (D_same 3) D_z D_z_ahead D_z_at D_z_stands D_z_put D_z_cut D_z_set D_z_hide D_Sizes M_size M_ahead M_at M_give M_hide M_put M_cut
theorem walk {l : PySem.W.OpenLaw} {q : Program} {loose : List Str} {XP : (Str → Option Value) → Heap → Prop} {YP : World → Heap → Prop} {d : DefRec} {K : Params → PySem.W.Frag} (hn : l.most = some 63) (hdf : d.params.defaults = [])
    (hY : ∀ (w : World) (h : Heap), YP w h → (K w.params).In h)
    (F : ∀ (w : World) (mg : Str → Option Value) (fa : Addr) (h : Heap), (K w.params).In h → h.Ns mainGlobals mg → mg d.name = some (.ref fa) →
      ∃ fd : FuncData, (∀ (s : Shared) (u : Value), BindsTo s fd ⟨[u], []⟩ [("_law_script", u)]) ∧ ∀ base : Heap, (K w.params).In base → base.Ns mainGlobals mg → FnOk l.prog w (K w.params) mg base CX0 7 fa fd ["_law_script"] (spLaw (K w.params))) :
    PySem.W.WalkO q loose XP YP l.row.toRowW d [] (fun f vs => PySem.call f vs) :=
  L2.walk_of (n := 63) (k := 7) (x := "_law_script") (CX := fun _ => CX0) (sp := fun w => spLaw (K w.params)) hn (by decide) hdf ⟨rfl, by decide, by decide⟩ hY F (fun _ _ a ns hl _ hS => ⟨a, ns, rfl, hS, hl, fun _ => rfl⟩) fun _ _ _ _ _ z => z
end K04
open PySem PySem.W PyProof.Rows
set_option maxRecDepth 100000 in
set_option maxHeartbeats 0 in
theorem PySem.Challenge.cw_gridscope_k04_whole_great_sizes_holds : PySem.Challenge.rw_gridscope_k04_whole_great_sizes.Holds := by
  w_on; o_law; k_head; (case hw => w_witness2)
  k_fill
  refine K04.walk (l := PySem.Challenge.rw_gridscope_k04_whole_great_sizes) rfl rfl (fun w h Y => PySem.W.kIn_of Y) ?F
  case F =>
    intro w mg fa h KX G hmg
    refine' K04.all_mk KX G hmg ?a_begin ?l_begin ?c_begin ?k_begin ?a_pick ?l_pick ?c_pick ?k_pick ?a_check_size ?l_check_size ?c_check_size ?k_check_size ?a_check_number ?l_check_number ?c_check_number ?k_check_number ?a_z_odd ?l_z_odd ?c_z_odd ?k_z_odd ?a_z_size ?l_z_size ?c_z_size ?k_z_size ?a_z_ahead ?l_z_ahead ?c_z_ahead ?k_z_ahead ?a_same ?l_same ?c_same ?k_same ?a_z_stands ?l_z_stands ?c_z_stands ?k_z_stands ?a_z ?l_z ?c_z ?k_z ?a_z_with ?l_z_with ?c_z_with ?k_z_with ?a_z_set ?l_z_set ?c_z_set ?k_z_set ?a_z_hide ?l_z_hide ?c_z_hide ?k_z_hide ?a_go_on ?l_go_on ?c_go_on ?k_go_on ?a_z_on ?l_z_on ?c_z_on ?k_z_on ?a_z_put ?l_z_put ?c_z_put ?k_z_put ?a_z_cut ?l_z_cut ?c_z_cut ?k_z_cut ?a_z_at ?l_z_at ?c_z_at ?k_z_at ?a_law ?l_law ?c_law ?k_law ?a_state ?i_state ?l_state ?c_state ?k_state ?a_size ?i_size ?l_size ?c_size ?k_size ?a_own ?i_own ?l_own ?c_own ?k_own ?a_hidden ?i_hidden ?l_hidden ?c_hidden ?k_hidden ?a_ahead ?i_ahead ?l_ahead ?c_ahead ?k_ahead ?a_total ?i_total ?l_total ?c_total ?k_total ?a_at ?i_at ?l_at ?c_at ?k_at ?a_exceptions ?i_exceptions ?l_exceptions ?c_exceptions ?k_exceptions ?a_repr ?i_repr ?l_repr ?c_repr ?k_repr ?a_keep ?i_keep ?l_keep ?c_keep ?k_keep ?a_give ?i_give ?l_give ?c_give ?k_give ?a_hide ?i_hide ?l_hide ?c_hide ?k_hide ?a_put ?i_put ?l_put ?c_put ?k_put ?a_cut ?i_cut ?l_cut ?c_cut ?k_cut ?a_init ?i_init ?l_init ?c_init ?k_init ?z_max ?z_min ?z_len ?z_list ?z_isinstance ?z_bool ?z_int ?z_str ?z_tuple ?z_range ?z_all ?z_sum ?z_sorted ?z_any ?z_dict ?z_repr ?g_GREATEST_SIZE ?g_MOST_THINGS ?g_MOST_ODD ?g_MOST_PUT ?p_Sizes ?hd_Sizes ?po_Sizes ?sa_Sizes ?n_Sizes_many ?n_Sizes_common ?n_Sizes_odd ?g_Sizes ?mk_Sizes ?kc_Sizes ?ia_Sizes ?io ?it ?im_Sizes ?e_NoIndex ?ex_NoIndex ?ek_NoIndex ?eb_NoIndex ?et_NoIndex ?ec_NoIndex ?es_NoIndex ?e_BadMany ?ex_BadMany ?ek_BadMany ?eb_BadMany ?et_BadMany ?ec_BadMany ?es_BadMany ?e_BadSize ?ex_BadSize ?ek_BadSize ?eb_BadSize ?et_BadSize ?ec_BadSize ?es_BadSize ?e_NoPoint ?ex_NoPoint ?ek_NoPoint ?eb_NoPoint ?et_NoPoint ?ec_NoPoint ?es_NoPoint ?e_Full ?ex_Full ?ek_Full ?eb_Full ?et_Full ?ec_Full ?es_Full
    (case a_begin => k_is); (case a_pick => k_is); (case a_check_size => k_is); (case a_check_number => k_is); (case a_z_odd => k_is); (case a_z_size => k_is)
    (case a_z_ahead => k_is); (case a_same => k_is); (case a_z_stands => k_is); (case a_z => k_is); (case a_z_with => k_is); (case a_z_set => k_is)
    (case a_z_hide => k_is); (case a_go_on => k_is); (case a_z_on => k_is); (case a_z_put => k_is); (case a_z_cut => k_is); (case a_z_at => k_is)
    (case a_law => k_is); (case z_max => k_is); (case z_min => k_is); (case z_len => k_is); (case z_list => k_is); (case z_isinstance => k_is)
    (case z_bool => k_is); (case z_int => k_is); (case z_str => k_is); (case z_tuple => k_is); (case z_range => k_is); (case z_all => k_is)
    (case z_sum => k_is); (case z_sorted => k_is); (case z_any => k_is); (case z_dict => k_is); (case z_repr => k_is); (case g_GREATEST_SIZE => k_is)
    (case g_MOST_THINGS => k_is); (case g_MOST_ODD => k_is); (case g_MOST_PUT => k_is); (case g_Sizes => k_is); (case e_NoIndex => k_is); (case e_BadMany => k_is)
    (case e_BadSize => k_is); (case e_NoPoint => k_is); (case e_Full => k_is); (case l_begin => k_is); (case c_begin => k_is); (case k_begin => k_is)
    (case l_pick => k_is); (case c_pick => k_is); (case k_pick => k_is); (case l_check_size => k_is); (case c_check_size => k_is); (case k_check_size => k_is)
    (case l_check_number => k_is); (case c_check_number => k_is); (case k_check_number => k_is); (case l_z_odd => k_is); (case c_z_odd => k_is); (case k_z_odd => k_is)
    (case l_z_size => k_is); (case c_z_size => k_is); (case k_z_size => k_is); (case l_z_ahead => k_is); (case c_z_ahead => k_is); (case k_z_ahead => k_is)
    (case l_same => k_is); (case c_same => k_is); (case k_same => k_is); (case l_z_stands => k_is); (case c_z_stands => k_is); (case k_z_stands => k_is)
    (case l_z => k_is); (case c_z => k_is); (case k_z => k_is); (case l_z_with => k_is); (case c_z_with => k_is); (case k_z_with => k_is)
    (case l_z_set => k_is); (case c_z_set => k_is); (case k_z_set => k_is); (case l_z_hide => k_is); (case c_z_hide => k_is); (case k_z_hide => k_is)
    (case l_go_on => k_is); (case c_go_on => k_is); (case k_go_on => k_is); (case l_z_on => k_is); (case c_z_on => k_is); (case k_z_on => k_is)
    (case l_z_put => k_is); (case c_z_put => k_is); (case k_z_put => k_is); (case l_z_cut => k_is); (case c_z_cut => k_is); (case k_z_cut => k_is)
    (case l_z_at => k_is); (case c_z_at => k_is); (case k_z_at => k_is); (case l_law => k_is); (case c_law => k_is); (case k_law => k_is)
    (case a_state => k_is); (case i_state => k_is); (case l_state => k_is); (case c_state => k_is); (case k_state => k_is); (case a_size => k_is)
    (case i_size => k_is); (case l_size => k_is); (case c_size => k_is); (case k_size => k_is); (case a_own => k_is); (case i_own => k_is)
    (case l_own => k_is); (case c_own => k_is); (case k_own => k_is); (case a_hidden => k_is); (case i_hidden => k_is); (case l_hidden => k_is)
    (case c_hidden => k_is); (case k_hidden => k_is); (case a_ahead => k_is); (case i_ahead => k_is); (case l_ahead => k_is); (case c_ahead => k_is)
    (case k_ahead => k_is); (case a_total => k_is); (case i_total => k_is); (case l_total => k_is); (case c_total => k_is); (case k_total => k_is)
    (case a_at => k_is); (case i_at => k_is); (case l_at => k_is); (case c_at => k_is); (case k_at => k_is); (case a_exceptions => k_is)
    (case i_exceptions => k_is); (case l_exceptions => k_is); (case c_exceptions => k_is); (case k_exceptions => k_is); (case a_repr => k_is); (case i_repr => k_is)
    (case l_repr => k_is); (case c_repr => k_is); (case k_repr => k_is); (case a_keep => k_is); (case i_keep => k_is); (case l_keep => k_is)
    (case c_keep => k_is); (case k_keep => k_is); (case a_give => k_is); (case i_give => k_is); (case l_give => k_is); (case c_give => k_is)
    (case k_give => k_is); (case a_hide => k_is); (case i_hide => k_is); (case l_hide => k_is); (case c_hide => k_is); (case k_hide => k_is)
    (case a_put => k_is); (case i_put => k_is); (case l_put => k_is); (case c_put => k_is); (case k_put => k_is); (case a_cut => k_is)
    (case i_cut => k_is); (case l_cut => k_is); (case c_cut => k_is); (case k_cut => k_is); (case a_init => k_is); (case i_init => k_is)
    (case l_init => k_is); (case c_init => k_is); (case k_init => k_is); (case p_Sizes => k_is); (case hd_Sizes => k_is); (case po_Sizes => k_is)
    (case sa_Sizes => k_is); (case n_Sizes_many => k_is); (case n_Sizes_common => k_is); (case n_Sizes_odd => k_is); (case mk_Sizes => k_is); (case kc_Sizes => k_is)
    (case ia_Sizes => k_is); (case io => k_is); (case it => k_is); (case im_Sizes => k_is); (case ex_NoIndex => k_exc); (case ek_NoIndex => k_is)
    (case eb_NoIndex => k_is); (case et_NoIndex => k_is); (case ec_NoIndex => k_is); (case es_NoIndex => k_is); (case ex_BadMany => k_exc); (case ek_BadMany => k_is)
    (case eb_BadMany => k_is); (case et_BadMany => k_is); (case ec_BadMany => k_is); (case es_BadMany => k_is); (case ex_BadSize => k_exc); (case ek_BadSize => k_is)
    (case eb_BadSize => k_is); (case et_BadSize => k_is); (case ec_BadSize => k_is); (case es_BadSize => k_is); (case ex_NoPoint => k_exc); (case ek_NoPoint => k_is)
    (case eb_NoPoint => k_is); (case et_NoPoint => k_is); (case ec_NoPoint => k_is); (case es_NoPoint => k_is); (case ex_Full => k_exc); (case ek_Full => k_is)
    (case eb_Full => k_is); (case et_Full => k_is); (case ec_Full => k_is); (case es_Full => k_is)
