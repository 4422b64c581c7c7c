import PyProof.Rows.All
import Wide.All
import OpenK.AllK
import Wide.FinOn
import KE.KIsAll
import KE.KExcIs
import PyProof.ReprRoads
import HandS.ForMost
import HandS.ExcInit
import HandS.Wide
import HandS.Defaults
import HandS.Head0
import HandS.Head1
import HandS.Head2
import HandS.HeadEnd
import HandS.HeadHook1
import HandS.HeadHook2
import HandS.Dict
import HandS.Evl
import HandS.IsInst
import HandS.Walk
import HandS.Conv
import HandS.Text
import HandS.Codes
import HandS.Strs
import KE.DatumOrd
import HandS.TupSets
import HandS.Iter
import KE.GoesEnumKw
import HandS.TupMul
import HandS.Deep
import HandS.Style
import HandS.OwnEq
import OpenK.KOps
import HandS.Lambda
import HandS.EndTab
import HandS.HeadHook4
import HandS.RaiseMore
import HandS.ListItems
import KE.GoesNew
import KE.GoesEnum
import KE.KTupSum
import PySem.Challenge.RW_dyedpours_k10_whole_dye_of_spots_and_sam
set_option Elab.async false
set_option linter.all false
set_option maxRecDepth 100000
set_option maxHeartbeats 4000000
namespace Er
open PySem PySem.Spec PyProof.Rows L2
/-! ### own error classes over ValueError, whose __init__ stores one field -/
/-- what the written part shows of such a class -/
def oexB (K : PySem.W.Frag) (C : Addr) : Bool := match K.lookup C with
  | some ⟨.type ty, _, .cls cd, sl⟩ => (match cd.mro, sl.toList with
    | .ref C' :: bm, [_, _, _, _, some (.builtin n), _] => decide (ty = "type") && (decide (C' = C) && (decide (n = "ValueError.__new__") && (!cd.hasDel && (cd.hasDict && PySem.HandSPX.refsVE bm))))
    | _, _ => false)
  | _ => false
theorem oexB_ok {K : PySem.W.Frag} {C : Addr} (h : oexB K C = true) : ∃ nm q N bs bm sn sub ab col dd k0 k1 k2 k3 k5, K.lookup C = some (excClassObj nm q C N bs bm true sn sub ab col dd k0 k1 k2 k3 k5 "ValueError.__new__") ∧ PySem.HandSPX.refsVE bm = true := by
  unfold oexB at h
  cases q : K.lookup C with
  | none => rw [q] at h; cases h
  | some o =>
    obtain ⟨oc, od, dt, sl⟩ := o
    rw [q] at h
    cases oc <;> try (simp at h; done)
    rename_i ty
    cases dt <;> try (simp at h; done)
    rename_i cd
    obtain ⟨nm, bs, mro, ns, qn, hd, sn, sb, ab, col, del⟩ := cd
    obtain ⟨l⟩ := sl
    cases mro with
    | nil => simp at h
    | cons m bm =>
      cases m <;> try (simp at h; done)
      rename_i C'
      match l, h with
      | [k0, k1, k2, k3, some (.builtin n), k5], h =>
        simp only [Bool.and_eq_true, decide_eq_true_eq, Bool.not_eq_true'] at h
        obtain ⟨h1, h2, h3, h4, h5, h6⟩ := h
        subst h1 h2 h3 h4 h5
        exact ⟨nm, qn, ns, bs, bm, sn, sb, ab, col, od, k0, k1, k2, k3, k5, rfl, h6⟩
/-- all facts of such a class at C, fI its __init__ -/
structure ErC (K : PySem.W.Frag) (C fI : Addr) : Prop where
  oex : OexC K C
  hga : PySem.W.findIn K (.ref C) "__getattribute__" = some (some (.builtin "BaseException.__getattribute__"))
  hgt : PySem.W.findIn K (.ref C) "__getattr__" = some none
  hcl : PySem.W.findIn K (.ref C) "__class__" = some (some (.builtin "object.__class__"))
  hm : PySem.W.mroIn K C (.type "object") = some true
  hd : PySem.W.hasDictIn K C = true
  nv : PySem.W.findIn K (.ref C) "value" = some none
  init : PySem.W.findIn K (.ref C) "__init__" = some (some (.ref fI))
  tI : PySem.W.typeIn K (.ref fI) = some (.type "function")
  gs : PySem.W.specialIn K (.builtin "object.__class__") "__get__" = some (some (.builtin "getset_descriptor.__get__"))
  tk : PySem.W.takesIn K (.builtin "object.__class__") = some true
def oo (a b : Option (Option Value)) : Bool := decide (a = b)
def erB (K : PySem.W.Frag) (C fI : Addr) : Bool :=
  oexB K C && (oo (PySem.W.findIn K (.ref C) "__setattr__") (some (some (.builtin "object.__setattr__"))) && (decide (PySem.W.subIn K (.ref C) (.type "BaseException") = some true) && (decide (PySem.W.typeIn K (.ref C) = some (.type "type")) && (PySem.W.keepIn K (.ref C) &&
  (oo (PySem.W.findIn K (.ref C) "__getattribute__") (some (some (.builtin "BaseException.__getattribute__"))) && (oo (PySem.W.findIn K (.ref C) "__getattr__") (some none) && (oo (PySem.W.findIn K (.ref C) "__class__") (some (some (.builtin "object.__class__"))) &&
  (decide (PySem.W.mroIn K C (.type "object") = some true) && (PySem.W.hasDictIn K C && (oo (PySem.W.findIn K (.ref C) "value") (some none) && (oo (PySem.W.findIn K (.ref C) "__init__") (some (some (.ref fI))) &&
  (decide (PySem.W.typeIn K (.ref fI) = some (.type "function")) && (oo (PySem.W.specialIn K (.builtin "object.__class__") "__get__") (some (some (.builtin "getset_descriptor.__get__"))) && decide (PySem.W.takesIn K (.builtin "object.__class__") = some true))))))))))))))
theorem erB_ok {K : PySem.W.Frag} {C fI : Addr} (h : erB K C fI = true) : ErC K C fI := by
  simp only [erB, oo, Bool.and_eq_true, decide_eq_true_eq] at h
  obtain ⟨h1, h2, h3, h4, h5, h6, h7, h8, h9, h10, h11, h12, h13, h14, h15⟩ := h
  exact ⟨⟨oexB_ok h1, h2, h3, h4, h5⟩, h6, h7, h8, h9, h10, h11, h12, h13, h14, h15⟩
/-- at e: an error of the class at C that holds v as its value, its dict at d -/
def ErrAt (H : Hp) (e C d : Addr) (v : V) : Prop := H e = some (exo e C (some d)) ∧ H d = some (exd d [("value", v)])
theorem ErrAt.same {H H' : Hp} {e C d : Addr} {v : V} (s : Same H H') (h : ErrAt H e C d v) : ErrAt H' e C d v := ⟨s _ _ h.1, s _ _ h.2⟩

section
variable {X : Cx} {pins : List (Addr × Obj)} {σ : L2.St} {H : Hp} {s : Shared}
theorem inst_err {e C d : Addr} {v : V} (I : Inv X pins σ H s) (h : ErrAt H e C d v) : ∃ ox od, PySem.W.InstAt s.heap e ox C (some od) ∧ ∃ u, RelV v u ∧ PySem.W.lookIn "value" od = some (some u) := by
  obtain ⟨t1, ho⟩ := exo_at I.hok h.1
  obtain ⟨mA, hns, rel⟩ := exd_at I.hok h.2
  obtain ⟨od, hod, hl⟩ := lookIn_ns hns
  have l : List.lookup ("value" : Str) [(("value" : Str), v)] = some v := by simp [List.lookup]
  obtain ⟨u, hu, ru⟩ := RelO.some_of (v := v) (o := mA "value") (by rw [← l]; exact rel "value")
  exact ⟨_, od, ⟨ho, rfl, rfl, hod⟩, u, ru, by rw [hl, hu]⟩
/-- isinstance(e, c), e such an error -/
def rIsEr (K : PySem.W.Frag) : List V → Hp → VK → Prop := fun xs H Q => ∃ (e C fI d : Addr) (v c : V) (u : Value) (b : Bool), xs = [.ref e, c] ∧ ErC K C fI ∧ ErrAt H e C d v ∧ (∀ w, RelV c w → w = u) ∧ PySem.W.kitOne K (.ref C) u = some b ∧ Q (.bl b) H
theorem call_isEr : CallR X (.builtin "isinstance") (rIsEr X.K) := by
  intro pins s σ H xs us Q I r h
  obtain ⟨e, C, fI, d, v, c, u, b, rfl, T, E, hc, kb, q⟩ := h
  obtain ⟨u1, u2, rfl, r1, r2⟩ := vals2 r
  obtain rfl : u1 = Value.ref e := r1
  obtain rfl := hc _ r2
  obtain ⟨ox, od, J, _⟩ := inst_err I E
  have hcl : (PySem.W.clsIn X.K C).isSome = true := by
    obtain ⟨cd, hc, _⟩ := PySem.W.any_some T.hd
    rw [hc]; rfl
  exact PySem.W.kia_one (PySem.W.kitx_exc (od := some od) (ox := ox) hcl T.hga T.hgt T.oex.exC T.hcl T.gs T.tk T.hm) I.kIn J kb (fun z => nomatch z) fun tk => ⟨.bl b, H, I.tok tk, rfl, q⟩
/-- e.value -/
def tVal (K : PySem.W.Frag) (te : TE) : TE := fun σ H Q => te σ H fun x H1 => ∃ (e C fI d : Addr) (v : V), x = .ref e ∧ ErC K C fI ∧ ErrAt H1 e C d v ∧ Q v H1
theorem pe_value {e : Expr} {te : TE} {pos : Pos} (he : PE X e te) (hb : attributeBase e "value" X.env (eval e X.env) = eval e X.env := by rfl) : PE X (.Attribute e "value" pos) (tVal X.K te) := by
  refine ⟨fun pins s σ H Q I h => ?_⟩
  refine attr_of hb (thn (he.run pins s σ H _ I h) fun u s1 hh => ?_)
  obtain ⟨x, H1, I1, rx, a, C, fI, d, v, ex, T, E, q⟩ := hh
  subst ex
  obtain rfl : u = Value.ref a := rx
  obtain ⟨ox, od, J, u, ru, hl⟩ := inst_err I1 E
  exact PySem.HandSPX.exc_get I1.kIn J T.hga T.hgt T.oex.exC (PySem.W.findObj_own T.hd T.nv rfl hl) (handed_of ru) ⟨v, H1, I1.tok _, ru, q⟩
end

/-! ### making one: C(e) as a value -/
section
variable {X : Cx} {e : Expr} {es : List Expr} {ta : TA} {p pos : Pos}
def tMkV (C : Addr) (sp : Sp) (dvs : List V) (ta : TA) : TE := fun σ H Q => ta σ H fun vs H1 => vs.length ≤ 1000 ∧ ∀ a, H1 a = none → sp (.ref a :: (vs ++ dvs)) (upd H1 a (exo a C none)) (fun v H2 => v = .non ∧ Q (.ref a) H2) (fun _ _ _ => False)
theorem pe_oexV {CX : CXT} {x : Str} {C fI : Addr} {k : Nat} {fd : FuncData} {ps : List Str} {sp : Sp} {ds : List Value} {dvs : List V} (T : OexC X.K C) (iC : PySem.W.findIn X.K (.ref C) "__init__" = some (some (.ref fI))) (tI : PySem.W.typeIn X.K (.ref fI) = some (.type "function"))
    (F1 : FnOk X.prog X.w X.K X.mg X.base CX k fI fd ps sp) (hr : Room (k + 1) X.A) (hb : Binds X.K fd ps ds) (hd : Vals dvs ds) (hx : Passes CX X (fun _ _ _ => False)) (hg : Gl X x) (hm : X.mg x = some (.ref C)) (ha : PA X (e :: es) ta)
    (hdb : (x == ("__debug__" : Str)) = false := by decide) (he : starEach (e :: es) X.env = (false, eval e X.env) :: starEach es X.env := by rfl) (hpl : (backTo pos (starEach es X.env)).any (·.1) = false := by rfl) :
    PE X (.Call (.Name x p) (e :: es) [] pos) (tMkV C sp dvs ta) := by
  refine ⟨fun pins s σ H Q I h => ?_⟩
  obtain ⟨nm, q, N, bs, bm, sn, sub, ab, col, dd, k0, k1, k2, k3, k5, hC, hbm⟩ := T.cls
  refine wpAny_Call_Name_kw (ld_glob I hg hm ?_ hdb)
  refine PySem.W.callWith_K (h₀ := X.base) I.ok.mod.kin T.kC (thn (ha.run pos pins s σ H _ I h) fun us s1 ⟨vs, H1, I1, r1, hz, q1⟩ => ⟨I1.kIn, ?_⟩) he hpl
  show wpAny _ _ (call (.ref C) us) _ _ _
  obtain ⟨hp, g, dr, tk, os⟩ := s1
  have hsz : hp.objs.size ≤ hp.objs.size + 1 := Nat.le_succ _
  have hn : H1 (hp.objs.size + 1) = none := I1.hok.fresh hsz
  have hq := q1 (hp.objs.size + 1) hn
  have kk : ∀ b o, hp.get? b = some o → ((hp.push (PySem.W.kdv_tup us)).push (PySem.HandSPX.excO C hp.objs.size)).get? b = some o := fun b o e => Heap.get?_push_of_some _ (Heap.get?_push_of_some _ e)
  have hget : ((hp.push (PySem.W.kdv_tup us)).push (PySem.HandSPX.excO C hp.objs.size)).get? (hp.objs.size + 1) = some (PySem.HandSPX.excO C hp.objs.size) := by heap_get
  have I2 : Inv X pins σ (upd H1 (hp.objs.size + 1) (exo (hp.objs.size + 1) C none)) ⟨(hp.push (PySem.W.kdv_tup us)).push (PySem.HandSPX.excO C hp.objs.size), g, dr, tk, os⟩ :=
    I1.laid (t' := tk) (a := hp.objs.size + 1) (o := exo (hp.objs.size + 1) C none) (h' := (hp.push (PySem.W.kdv_tup us)).push (PySem.HandSPX.excO C hp.objs.size)) kk hsz (exo_ok hget)
  have r2 : Vals (V.ref (hp.objs.size + 1) :: (vs ++ dvs)) (Value.ref (hp.objs.size + 1) :: (us ++ ds)) := .cons rfl (r1.append hd)
  have hl : (Value.ref (hp.objs.size + 1) :: us ++ ds).length = ps.length := by
    have e := r2.length
    rw [F1.len _ _ _ _ hq] at e
    exact e.symm
  have hus : us.length ≤ sizeLine := by
    rw [← Paired.length r1, sizeLine_eq]
    omega
  refine wpAny_call (PySem.HandSPX.call_own F.excBase_ValueError (fun Y => PySem.HandSPX.refsVE_contains Y bm hbm) (I1.kIn _ _ hC) (PySem.W.looks_findIn I1.kIn iC) (fun self => PySem.W.bind_fn I1.kIn self tI) hus
    (codeAny_mono (F1.run _ X.stack _ _ ⟨Value.ref (hp.objs.size + 1) :: us, []⟩ (Value.ref (hp.objs.size + 1) :: (us ++ ds)) _ _ (fun _ _ _ => False) (hr.make C us []) (I2.env0.make C us []) (hb _ (Value.ref (hp.objs.size + 1) :: us) I2.kIn hl) r2 hq) fun r s' hq' => ?_))
  cases r with
  | error er => exact hx pins σ _ _ er s' I2 hq'
  | ok fl =>
    cases fl with
    | ret u =>
      obtain ⟨v, H', I3, rv, ev, q3⟩ := I2.after hq'
      subst ev
      exact ⟨rv, ⟨V.ref (hp.objs.size + 1), H', I3, rfl, q3⟩⟩
    | next => exact False.elim hq'
    | brk => exact False.elim hq'
    | cont => exact False.elim hq'
end
/-! ### __init__(self, value): self.value = value -/
/-- the promise: the fresh error gets a dict of its own that holds the value -/
def spInit (K : PySem.W.Frag) : Sp := fun vs H Q _ => ∃ (a C fI : Addr) (v : V), vs = [.ref a, v] ∧ ErC K C fI ∧ H a = some (exo a C none) ∧ ∀ dx, H dx = none → dx ≠ a → Q .non (upd (upd H dx (exd dx [("value", v)])) a (exo a C (some dx)))
theorem ok_init {P : Program} {w : World} {K : PySem.W.Frag} {mg : Str → Option Value} {base : Heap} {q : Str} {st : Stmt} {f : Addr} {fd : FuncData} {p1 p2 p3 pos : Pos} (F : FunD K "__init__" q (defArgs st) (defBody st) (defScope st) [] [] f fd)
    (S : FnScope ["self", "value"] ["self", "value"] (defScope st)) (hb : defBody st = [.Assign [.Attribute (.Name "self" p1) "value" p2] (.Name "value" p3) pos])
    (v0 : Vis (defScope st) "self") (v1 : Vis (defScope st) "value") (hsw : ∀ env : Env, env.scope = defScope st → swapsWith (.Name "value" p3) (some (.Attribute (.Name "self" p1) "value" p2)) pos.line env = pure false) : FnOk P w K mg base CX0 1 f fd ["self", "value"] (spInit K) := by
  refine F.ok S (fun vs H Q E h => ?_) (fun cdv A outer s H vs Q E hr h => ?_)
  · obtain ⟨a, C, fI, v, rfl, _⟩ := h
    rfl
  · obtain ⟨a, C, fI, v, rfl, T, ha, k⟩ := h
    rw [hb]
    refine ⟨_, pss_one (ps_ost (pv 0 rfl v0) (pv 1 rfl v1) (hsw _ rfl)), ?_⟩
    exact ⟨v, rfl, .ref a, rfl, a, C, rfl, T.oex, T.nv, .inl ⟨ha, fun dx h1 h2 => k dx h1 h2⟩⟩
end Er
set_option Elab.async false
set_option linter.all false
set_option maxRecDepth 100000
set_option maxHeartbeats 4000000
/-! Defs whose promise holds where no repr is under way (the guards are known to be none): what repr of a list, a tuple, a dict asks. -/
namespace Er
open PySem PySem.Spec PyProof.Rows L2
/-- as FnOk, at an around without guards -/
structure FnG (P : Program) (w : World) (K : PySem.W.Frag) (mg : Str → Option Value) (base : Heap) (CX : CXT) (k : Nat) (f : Addr) (fd : FuncData) (ps : List Str) (sp : Sp) : Prop where
  len : ∀ vs H Q E, sp vs H Q E → vs.length = ps.length
  run : ∀ (A : Around) (outer : List Env) (s : Shared) (H : Hp) (args : Args) (us : List Value) (vs : List V) (Q : VK) (E : XK), Room k A → A.guards = some [] →
    Env0 P w K mg base A outer s H → BindsTo s fd args (ps.zip us) → Vals vs us → sp vs H Q E → codeAny (model P w) A (.call (.ref f) args) (CR CX outer P w H s Q E) s
section
variable {P : Program} {w : World} {K : PySem.W.Frag} {mg : Str → Option Value} {base : Heap} {x qual : Str} {params : Arguments} {body : List Stmt} {scope : Scope} {dvs : List V} {kws : List (Str × V)} {f : Addr} {fd : FuncData}
theorem okG {CX : CXT} {N ps : List Str} {k : Nat} {sp : Sp} (F : FunD K x qual params body scope dvs kws f fd) (S : FnScope N ps scope) (len : ∀ vs H Q E, sp vs H Q E → vs.length = ps.length)
    (hbody : ∀ (cdv : Value) (A : Around) (outer : List Env) (s : Shared) (H : Hp) (vs : List V) (Q : VK) (E : XK), Room k (A.deeper (envOfC qual scope s.heap.objs.size f cdv)) → A.guards = some [] → sp vs H Q E →
      ∃ t, PSs (cxOf CX P w K mg base N qual scope f cdv A outer s H E) body t ∧ t { nx := fun _ H' => Q .non H', rt := Q } (start N vs) H) : FnG P w K mg base CX (k + 1) f fd ps sp := by
  obtain ⟨oc, od, dV, kV, doc, pm, an, cdv, ct, osl, rfl, lk, hcd, _, _⟩ := F.ex
  refine ⟨len, fun A outer s H args us vs Q E hr hgd e0 hb r hsp => ?_⟩
  -- the def runs on its body's reading, as fn_of shows it for any around
  obtain ⟨t, ht, hq⟩ := hbody cdv A outer s H vs Q E (hr.deeper _) hgd hsp
  have KX : K.In s.heap := e0.mod.kin.keeps fun b o e => (e0.bs b o e).1
  refine codeAny_call_function hr.depth (KX _ _ lk) rfl S.co S.gen rfl (PySem.W.codeRec_of KX hcd) (hb _ _ _ _ ?_)
  refine wpAny_newFunctionEnv_cells S.kind (fun ⟨n, v⟩ hy => ?_) fun env he s1 x => ?_
  · exact (S.par n (List.of_mem_zip hy).1).elim .inl fun q => .inr ⟨q, PySem.W.cellsFrom_some _ _ _ (.inl q)⟩
  subst he
  refine ⟨(e0.mod.nolimit.keeps fun b o e => (e0.bs b o e).1).keeps x.toInCall.keep, codeAny_func ?_⟩
  refine wpAny_mono (ht.run [] s1 (start N vs) H _ (inv_start S hr.hd e0 (len _ _ _ _ hsp) r x) hq) (fun fl s' hs => ?_) fun e s' hs => hs
  match fl, hs with
  | .ret u, ⟨v, σ', H', J, rv, q⟩ => exact ⟨v, H', J.os, J.bare, J.base, J.hok, rv, q⟩
  | .next, ⟨σ', H', J, q⟩ => exact ⟨.non, H', J.os, J.bare, J.base, J.hok, rfl, q⟩
  | .brk, ⟨_, _, _, q⟩ => exact q.elim
  | .cont, ⟨_, _, _, q⟩ => exact q.elim
end
section
variable {X : Cx} {CX : CXT} {k : Nat} {f : Addr} {fd : FuncData} {ps : List Str} {sp : Sp} {dvs : List V} {ds : List Value} {E : XK} {x : Str} {p pos : Pos} {e : Expr} {es : List Expr} {t : TA}
theorem run_fnG {pins : List (Addr × Obj)} {σ : L2.St} {H : Hp} {s : Shared} {Q : VK} {us : List Value} {vs : List V} (F : FnG X.prog X.w X.K X.mg X.base CX k f fd ps sp) (hr : Room k X.A) (hgd : X.A.guards = some []) (hb : Binds X.K fd ps ds)
    (hd : Vals dvs ds) (hx : Passes CX X E) (I : Inv X pins σ H s) (r : Vals vs us) (h : sp (vs ++ dvs) H Q E) : wpAny (model X.prog X.w) X.A (call (.ref f) us) (EP X pins σ Q) X.xe s := by
  have r2 : Vals (vs ++ dvs) (us ++ ds) := r.append hd
  have hl : (us ++ ds).length = ps.length := r2.length.symm.trans (F.len _ _ _ _ h)
  refine wpAny_call (codeAny_mono (F.run X.A X.stack s H ⟨us, []⟩ (us ++ ds) (vs ++ dvs) Q E hr hgd I.env0 (hb s us I.kIn hl) r2 h) fun r s' hq => ?_)
  match r, hq with
  | .error e, hq => exact hx pins σ H s e s' I hq
  | .ok (.ret u), hq => exact I.after hq
theorem pe_callG (F : FnG X.prog X.w X.K X.mg X.base CX k f fd ps sp) (hr : Room k X.A) (hgd : X.A.guards = some []) (hg : Gl X x) (hm : X.mg x = some (.ref f)) (hk : PySem.W.keepIn X.K (.ref f) = true) (hb : Binds X.K fd ps ds) (hd : Vals dvs ds) (hx : Passes CX X E)
    (ha : PA X (e :: es) t) (hdb : (x == ("__debug__" : Str)) = false := by decide) (he : starEach (e :: es) X.env = (false, eval e X.env) :: starEach es X.env := by rfl) (hpl : (backTo pos (starEach es X.env)).any (·.1) = false := by rfl) :
    PE X (.Call (.Name x p) (e :: es) [] pos) (tCall sp dvs E t) :=
  ⟨fun pins s σ H Q I h => wpAny_Call_Name_kw (ld_glob I hg hm
    (PySem.W.callWith_K (h₀ := X.base) I.ok.mod.kin hk (thn (ha.run pos pins s σ H _ I h) fun us s1 ⟨vs, H1, I1, r, q⟩ => ⟨I1.kIn, run_fnG F hr hgd hb hd hx I1 r q⟩) he hpl) hdb)⟩
end
/-! ### the end of a law over such a def -/
section
variable {P : Program} {w : World} {K : PySem.W.Frag} {mg mb : Str → Option Value} {CX : CXT} {k : Nat} {fa a : Addr} {fd : FuncData} {x : Str} {sp : Sp} {s₁ : Shared} {vs : List Value} {ns : List Int}
/-- from an abstract heap that tracks nothing but the script -/
theorem law_core {H : Hp} (KX : K.In s₁.heap) (hns : s₁.heap.Ns mainGlobals mg) (hb : s₁.heap.Ns builtinsNs mb) (hbb : ∀ x : Str, x ≠ "__name__" → mb x = bootBuiltins x) (hlim : s₁.heap.NoLimit) (hg : s₁.gens = #[])
    (ha : s₁.heap.get? a = some { cls := .type "list", data := .seq vs.toArray }) (hr : Room k callerA)
    (F : ∀ base : Heap, K.In base → base.Ns mainGlobals mg → FnG P w K mg base CX k fa fd [x] sp) (hbind : ∀ (s : Shared) (u : Value), BindsTo s fd ⟨[u], []⟩ [(x, u)])
    (hsp : sp [.ref a] H (fun v _ => v = .bl true) fun _ _ _ => False) (hCX : ∀ H e s', CX [] H s₁ (fun _ _ _ => False) e s' → False)
    (hO : Only H) (hok : HOk P w H s₁.heap) (hA : ∀ b, H b ≠ none → b = a) (hK : H a ≠ none → K.lookup a = none) :
    codeAny (model P w) callerA (.call (.ref fa) ⟨[.ref a], []⟩) (fun r s' => r = .ok (.ret (.bool true)) ∧ OldK s₁.heap s'.heap ∧ s'.os = s₁.os ∧ AllBare s'.gens) s₁ := by
  have out : ∀ {b : Addr} {Z : Prop}, (H b = none → Z) → (b = a → H a ≠ none → Z) → Z := fun {b Z} h1 h2 => by
    by_cases q : H b = none
    · exact h1 q
    · have e := hA b q
      exact h2 e (e ▸ q)
  have noA : ∀ {b : Addr} {o : Obj} {es : Array DictEntry} {ep : Nat}, s₁.heap.get? b = some o → o.data = .dict es ep → H b = none := fun {b o es ep} e d =>
    out id fun eb _ => by
      rw [eb, ha] at e
      cases e
      cases d
  have nsK : ∀ {b : Addr} {m : Str → Option Value}, s₁.heap.Ns b m → (hidT s₁.heap H).Ns b m := fun {b m} ⟨o, es, ep, e, d, r⟩ => ⟨o, es, ep, hidT_get e (noA e d), d, r⟩
  have hKb : K.In (hidT s₁.heap H) := fun b o e => hidT_get (KX b o e) (out id fun eb q => by
    rw [eb, hK q] at e
    cases e)
  obtain ⟨mc, l1, l2⟩ := hlim
  have e0 : Env0 P w K mg (hidT s₁.heap H) callerA [] s₁ H := ⟨rfl, ⟨hKb, nsK hns, ⟨mb, nsK hb, hbb⟩, ⟨mc, nsK l1, l2⟩⟩, fun b o e => of_hidT e, Nat.le_of_eq (hidT_size _ _), trivial, (fun b hb => nomatch hb), hok, .of_eq hg⟩
  refine codeAny_mono ((F _ hKb (nsK hns)).run callerA [] s₁ H ⟨[.ref a], []⟩ [.ref a] [.ref a] _ _ hr rfl e0 (hbind s₁ (.ref a)) (.cons rfl .nil) hsp) fun r s' h => ?_
  match r, h with
  | .error e, h => exact (hCX H e s' h).elim
  | .ok (.ret u), ⟨v, H', os, bare, un, hok', r', q⟩ =>
    have q' : v = .bl true := q
    subst q'
    obtain rfl : u = Value.bool true := r'
    refine ⟨rfl, OldK.of_keep fun b o e => ?_, os, bare⟩
    cases q : H b with
    | none => exact un.keep b o e q (fun z => nomatch z) (fun z => nomatch z)
    | some u =>
      rcases hO b with z | ⟨ob, xs, z⟩
      · rw [q] at z
        cases z
      · have e1 := (hok b _ z).1
        have e2 := (hok' b _ (un.frzs b ob _ z)).1
        rw [e] at e1
        cases e1
        exact e2
theorem law_callG (KX : K.In s₁.heap) (hns : s₁.heap.Ns mainGlobals mg) (hb : s₁.heap.Ns builtinsNs mb) (hbb : ∀ x : Str, x ≠ "__name__" → mb x = bootBuiltins x) (hlim : s₁.heap.NoLimit) (hg : s₁.gens = #[])
    (ha : s₁.heap.get? a = some { cls := .type "list", data := .seq vs.toArray }) (hi : IntsAre vs ns) (hl : ns.length ≤ sizeLine) (hr : Room k callerA)
    (F : ∀ base : Heap, K.In base → base.Ns mainGlobals mg → FnG P w K mg base CX k fa fd [x] sp) (hbind : ∀ (s : Shared) (u : Value), BindsTo s fd ⟨[u], []⟩ [(x, u)])
    (hsp : ∀ H : Hp, Only H → SqL K H a (ns.map V.int) → sp [.ref a] H (fun v _ => v = .bl true) fun _ _ _ => False) (hCX : ∀ H e s', CX [] H s₁ (fun _ _ _ => False) e s' → False) :
    codeAny (model P w) callerA (.call (.ref fa) ⟨[.ref a], []⟩) (fun r s' => r = .ok (.ret (.bool true)) ∧ OldK s₁.heap s'.heap ∧ s'.os = s₁.os ∧ AllBare s'.gens) s₁ := by
  have rv := vals_ints hi
  cases hk : K.lookup a with
  | some o =>
    -- the script is one of the module's own objects
    have e := (KX a o hk).symm.trans ha
    cases e
    exact law_core (H := fun _ => none) KX hns hb hbb hlim hg ha hr F hbind
      (hsp _ (fun _ => .inl rfl) (.inr ⟨_, vs.toArray, _, hk, rfl, rfl, rfl, by rw [List.size_toArray, hi.length]; exact hl, by simpa using rv⟩)) hCX (fun _ => .inl rfl) (fun b u z => nomatch (show (none : Option HO) = some u from z)) (fun b z => absurd rfl z) fun z => absurd rfl z
  | none =>
    -- it is tracked as a thing that is only read
    let H : Hp := fun b => if b = a then some (.frz { cls := .type "list", data := .seq vs.toArray } (.lst (ns.map V.int))) else none
    have at_ : H a = some (.frz { cls := .type "list", data := .seq vs.toArray } (.lst (ns.map V.int))) := if_pos rfl
    have off : ∀ {b : Addr}, b ≠ a → H b = none := fun h => if_neg h
    have only : Only H := fun b => by
      by_cases e : b = a
      · exact .inr ⟨_, _, if_pos e⟩
      · exact .inl (off e)
    refine law_core (H := H) KX hns hb hbb hlim hg ha hr F hbind (hsp H only (.inl (.inr ⟨_, at_⟩))) hCX only (fun b u z => ?_) (fun b z => ?_) fun _ => hk
    · by_cases e : b = a
      · subst e
        cases at_.symm.trans z
        exact ⟨ha, by rw [List.length_map]; exact hl, vs, _, rv, ha⟩
      · cases (off e).symm.trans z
    · by_cases e : b = a
      · exact e
      · exact absurd (off e) z
end
theorem walk_ofG {l : PySem.W.OpenLaw} {n k : Nat} {q : Program} {loose : List Str} {XP : (Str → Option Value) → Heap → Prop} {YP : World → Heap → Prop} {d : DefRec} {CX : World → CXT} {x : Str}
    (hn : l.most = some n) (hn2 : n ≤ sizeLine) (hdf : d.params.defaults = []) (hr : Room k callerA)
    (F : ∀ (w : World) (mg : Str → Option Value) (fa : Addr) (h : Heap), YP w h → h.Ns mainGlobals mg → mg d.name = some (.ref fa) → ∃ (K : PySem.W.Frag) (fd : FuncData) (sp : Sp), K.In h ∧ (∀ (s : Shared) (u : Value), BindsTo s fd ⟨[u], []⟩ [(x, u)]) ∧
      (∀ (H : Hp) (a : Addr) (ns : List Int), ns.length ≤ n → Only H → SqL K H a (ns.map V.int) → sp [.ref a] H (fun v _ => v = .bl true) fun _ _ _ => False) ∧ ∀ base : Heap, K.In base → base.Ns mainGlobals mg → FnG l.prog w K mg base (CX w) k fa fd [x] sp)
    (hCX : ∀ (w : World) (H : Hp) (s : Shared) (e : Value) (s' : Shared), CX w [] H s (fun _ _ _ => False) e s' → False) : PySem.W.WalkO q loose XP YP l.row.toRowW d [] (fun f vs => PySem.call f vs) := by
  refine Att.attach_call hn hdf fun w s₀ s₁ mg mb fa o pm cd doc a vs ns G Y ho hd hcd hmg hobj hints hlen hg => ?_
  obtain ⟨K, fd, sp, KX, hb, hsp, hF⟩ := F w mg fa _ Y G.T.g hmg
  exact law_callG KX G.T.g G.T.b G.T.builtins G.T.nolimit hg hobj hints (Nat.le_trans hlen hn2) hr hF hb (fun H hO hS => hsp H a ns hlen hO hS) fun H e s' => hCX w H s₁ e s'
end Er
set_option Elab.async false
set_option linter.all false
set_option maxRecDepth 100000
set_option maxHeartbeats 4000000
/-! repr of data: none, bools, ints, texts, lists, tuples, dicts with int and text keys. -/
namespace Er
open PySem PySem.Spec PyProof.Rows L2
/-- sys.modules stands in the written part -/
def SysIn (K : PySem.W.Frag) : Prop := ∃ o, K.lookup sysModules = some o ∧ o.cls = .type "dict"
def sysB (K : PySem.W.Frag) : Bool := match K.lookup sysModules with
  | some o => decide (o.cls = .type "dict")
  | none => false
theorem sysB_ok {K : PySem.W.Frag} (h : sysB K = true) : SysIn K := by
  unfold sysB at h
  cases q : K.lookup sysModules with
  | none => rw [q] at h; cases h
  | some o => rw [q] at h; exact ⟨o, q, of_decide_eq_true h⟩
def keyD : Key → PyData
  | .inl i => .int i
  | .inr x => .str x
mutual
inductive Sh (K : PySem.W.Frag) (H : Hp) : V → PyData → Prop
  | non : Sh K H .non .none
  | bl (b : Bool) : Sh K H (.bl b) (.bool b)
  | int (i : Int) : Sh K H (.int i) (.int i)
  | str (x : Str) : Sh K H (.str x) (.str x)
  | lst {a : Addr} {xs : List V} {ds : List PyData} : SqL K H a xs → ShAll K H xs ds → Sh K H (.ref a) (.list ds)
  | tup {a : Addr} {xs : List V} {ds : List PyData} : SqT K H a xs → ShAll K H xs ds → Sh K H (.ref a) (.tuple ds)
  | dic {a : Addr} {kvs : List (Key × V)} {ds : List (PyData × PyData)} : H a = some (.dK kvs) → ds.map (·.1) = kvs.map (fun q => keyD q.1) → ShAll K H (kvs.map (·.2)) (ds.map (·.2)) → Sh K H (.ref a) (.dict ds)
inductive ShAll (K : PySem.W.Frag) (H : Hp) : List V → List PyData → Prop
  | nil : ShAll K H [] []
  | cons {v : V} {vs : List V} {d : PyData} {ds : List PyData} : Sh K H v d → ShAll K H vs ds → ShAll K H (v :: vs) (d :: ds)
end
theorem sameT {K : PySem.W.Frag} {H H' : Hp} {a : Addr} {xs : List V} (e : Same H H') (h : SqT K H a xs) : SqT K H' a xs := by
  rcases h with (h | ⟨o, h⟩) | h
  · exact .inl (.inl (e _ _ h))
  · exact .inl (.inr ⟨o, e _ _ h⟩)
  · exact .inr h
mutual
theorem Sh.same {K : PySem.W.Frag} {H H' : Hp} (e : Same H H') : ∀ {v : V} {d : PyData}, Sh K H v d → Sh K H' v d
  | _, _, .non => .non
  | _, _, .bl b => .bl b
  | _, _, .int i => .int i
  | _, _, .str x => .str x
  | _, _, .lst hs ha => .lst (e.seq hs) (ShAll.same e ha)
  | _, _, .tup hs ha => .tup (sameT e hs) (ShAll.same e ha)
  | _, _, .dic hs hk ha => .dic (e _ _ hs) hk (ShAll.same e ha)
theorem ShAll.same {K : PySem.W.Frag} {H H' : Hp} (e : Same H H') : ∀ {vs : List V} {ds : List PyData}, ShAll K H vs ds → ShAll K H' vs ds
  | _, _, .nil => .nil
  | _, _, .cons h t => .cons (Sh.same e h) (ShAll.same e t)
end
theorem keys_read {P : Program} {w : World} {h : Heap} : ∀ {kvs : List (Key × V)} {vs : List (Key × Value)} {es : List DictEntry}, KV kvs vs → Pairs (mixKind P w) es vs → ReadsAll h (es.map (·.key)) (kvs.map fun q => keyD q.1) []
  | [], _, _, r, p => by
    cases r
    cases p
    exact .nil
  | q :: kvs, _, es, r, p => by
    cases r with
    | cons r1 r2 =>
      cases p with
      | cons p1 pv p2 =>
        have ih := keys_read (h := h) r2 p2
        refine ReadsAll.cons (as := []) (bs := []) ?_ ih
        obtain ⟨k, v⟩ := q
        have e1 := r1.1
        have q1 := p1
        rw [← e1] at q1
        cases k with
        | inl i =>
          obtain ⟨t, e⟩ := Value.isInt_shape (show Value.isInt i _ = true from q1)
          have z := Reads.int (h := h) i t
          rw [← e] at z
          exact z
        | inr x =>
          obtain ⟨t, e⟩ := Value.isStrOf_shape (show Value.isStrOf x _ = true from q1)
          have z := Reads.str (h := h) x t
          rw [← e] at z
          exact z
theorem vals_at {P : Program} {w : World} : ∀ {kvs : List (Key × V)} {vs : List (Key × Value)} {es : List DictEntry}, KV kvs vs → Pairs (mixKind P w) es vs → Vals (kvs.map (·.2)) (es.map (·.val))
  | [], _, _, r, p => by
    cases r
    cases p
    exact .nil
  | q :: kvs, _, es, r, p => by
    cases r with
    | cons r1 r2 =>
      cases p with
      | cons p1 pv p2 =>
        refine .cons ?_ (vals_at r2 p2)
        have z := r1.2
        rw [← pv] at z
        exact z
section
variable {X : Cx} {pins : List (Addr × Obj)} {σ : L2.St} {H : Hp} {s : Shared}
theorem not_sys (I : Inv X pins σ H s) (hS : SysIn X.K) {a : Addr} {o : Obj} (h : s.heap.get? a = some o) (hc : o.cls = .type "list") : a ≠ sysModules := fun e => by
  obtain ⟨o', l, c⟩ := hS
  have q := I.kIn _ _ l
  rw [← e, h] at q
  rw [← Option.some.inj q, hc] at c
  exact absurd c (by decide)
mutual
theorem Sh.reads (I : Inv X pins σ H s) (hS : SysIn X.K) : ∀ (d : PyData) (v : V) (u : Value), Sh X.K H v d → RelV v u → ∃ as, Reads s.heap u d as ∧ sysModules ∉ as
  | .none, _, _, h, r => by
    cases h
    cases r
    exact ⟨_, Reads.none, fun z => nomatch z⟩
  | .bool b, _, _, h, r => by
    cases h
    cases r
    exact ⟨_, Reads.bool b, fun z => nomatch z⟩
  | .int i, _, _, h, r => by
    cases h
    obtain ⟨t, rfl⟩ := r
    exact ⟨_, Reads.int i t, fun z => nomatch z⟩
  | .str x, _, _, h, r => by
    cases h
    obtain ⟨t, rfl⟩ := r
    exact ⟨_, Reads.str x t, fun z => nomatch z⟩
  | .list ds, _, _, h, r => by
    cases h with
    | lst hs ha =>
      cases r
      obtain ⟨its, rv, ⟨o, n, ho, hc, _, hd⟩, _⟩ := I.list hs
      obtain ⟨as, hr, hn⟩ := ShAll.reads I hS ds _ its ha rv
      refine ⟨_, Reads.list ho hc hd hr, fun z => ?_⟩
      rcases List.mem_cons.mp z with z | z
      · exact not_sys I hS ho hc z.symm
      · exact hn z
  | .tuple ds, _, _, h, r => by
    cases h with
    | tup hs ha =>
      cases r
      obtain ⟨its, rv, ⟨o, ho, hc, n, hd⟩, _⟩ := I.tuple hs
      obtain ⟨as, hr, hn⟩ := ShAll.reads I hS ds _ its ha rv
      exact ⟨_, Reads.tuple ho hc hd hr, hn⟩
  | .dict ds, _, _, h, r => by
    cases h with
    | dic hs hk ha =>
      cases r
      obtain ⟨_, hm, vs, hkv, o, es, ep, ho, hx, hd, _, hp, _⟩ := dk_of I.hok hs
      obtain ⟨bs, hr, hn⟩ := ShAll.readsKv I hS ds _ _ ha (vals_at hkv hp)
      have k := keys_read (h := s.heap) hkv hp
      rw [← hk] at k
      refine ⟨_, Reads.dict ho hx.1 hd k hr, fun z => ?_⟩
      rcases List.mem_cons.mp z with z | z
      · rw [z] at hm
        exact absurd hm (by simp)
      · exact hn z
theorem ShAll.readsKv (I : Inv X pins σ H s) (hS : SysIn X.K) : ∀ (ds : List (PyData × PyData)) (vs : List V) (us : List Value), ShAll X.K H vs (ds.map (·.2)) → Vals vs us → ∃ as, ReadsAll s.heap us (ds.map (·.2)) as ∧ sysModules ∉ as
  | [], _, _, h, r => by
    cases h
    cases r
    exact ⟨_, ReadsAll.nil, fun z => nomatch z⟩
  | (_, d) :: ds, _, _, h, r => by
    cases h with
    | cons h1 h2 =>
      cases r with
      | cons r1 r2 =>
        obtain ⟨as, q1, n1⟩ := Sh.reads I hS d _ _ h1 r1
        obtain ⟨bs, q2, n2⟩ := ShAll.readsKv I hS ds _ _ h2 r2
        exact ⟨_, ReadsAll.cons q1 q2, fun z => (List.mem_append.mp z).elim n1 n2⟩
theorem ShAll.reads (I : Inv X pins σ H s) (hS : SysIn X.K) : ∀ (ds : List PyData) (vs : List V) (us : List Value), ShAll X.K H vs ds → Vals vs us → ∃ as, ReadsAll s.heap us ds as ∧ sysModules ∉ as
  | [], _, _, h, r => by
    cases h
    cases r
    exact ⟨_, ReadsAll.nil, fun z => nomatch z⟩
  | d :: ds, _, _, h, r => by
    cases h with
    | cons h1 h2 =>
      cases r with
      | cons r1 r2 =>
        obtain ⟨as, q1, n1⟩ := Sh.reads I hS d _ _ h1 r1
        obtain ⟨bs, q2, n2⟩ := ShAll.reads I hS ds _ _ h2 r2
        exact ⟨_, ReadsAll.cons q1 q2, fun z => (List.mem_append.mp z).elim n1 n2⟩
end
end
/-- what repr asks of a datum -/
structure Shows (d : PyData) : Prop where
  ok : d.showable = true
  deep : d.depth ≤ 60
  size : d.shown.length ≤ sizeLine
/-- repr(x), x data -/
def rRepr (K : PySem.W.Frag) : List V → Hp → VK → Prop := fun xs H Q => ∃ (x : V) (d : PyData), xs = [x] ∧ Sh K H x d ∧ Shows d ∧ Q (.str d.shown) H
theorem call_repr {X : Cx} (hS : SysIn X.K) (hg : X.A.guards = some []) (hu : X.A.units + 64 < cLine) : CallR X (.builtin "repr") (rRepr X.K) := by
  intro pins s σ H xs us Q I r h
  obtain ⟨x, d, rfl, hx, hd, q⟩ := h
  obtain ⟨u, rfl, rx⟩ := vals1 r
  obtain ⟨as, hr, hn⟩ := Sh.reads I hS d x u hx rx
  cases hx with
  | non =>
    cases rx
    exact PySem.P.repr_of_none ⟨.str _, H, I.tok _, ⟨_, rfl⟩, q⟩
  | bl b =>
    cases rx
    exact PySem.P.repr_of_bool ⟨.str _, H, I.tok _, ⟨_, rfl⟩, q⟩
  | int i =>
    obtain ⟨t, rfl⟩ := rx
    exact PySem.P.repr_of_int (by have z := hd.ok; simpa [PyData.showable] using z) ⟨.str _, H, I.tok _, ⟨_, rfl⟩, q⟩
  | str x =>
    obtain ⟨t, rfl⟩ := rx
    exact PySem.P.repr_of_str ⟨.str _, H, I.tok _, ⟨_, rfl⟩, q⟩ hd.size
  | lst h1 h2 =>
    cases rx
    exact repr_of_reads' hr hd.ok (fun _ => hn) hg (by have := hd.deep; omega) (fun _ _ e => e) (fun h' u tk hk => ⟨.str _, H, I.un (Un.kept hk) (I.hok.kept hk), ⟨_, rfl⟩, q⟩) hd.size
  | tup h1 h2 =>
    cases rx
    exact repr_of_reads' hr hd.ok (fun _ => hn) hg (by have := hd.deep; omega) (fun _ _ e => e) (fun h' u tk hk => ⟨.str _, H, I.un (Un.kept hk) (I.hok.kept hk), ⟨_, rfl⟩, q⟩) hd.size
  | dic h1 h2 h3 =>
    cases rx
    exact repr_of_reads' hr hd.ok (fun _ => hn) hg (by have := hd.deep; omega) (fun _ _ e => e) (fun h' u tk hk => ⟨.str _, H, I.un (Un.kept hk) (I.hok.kept hk), ⟨_, rfl⟩, q⟩) hd.size
end Er
set_option Elab.async false
set_option linter.all false
set_option maxRecDepth 100000
set_option maxHeartbeats 4000000
/-! The head's facts: defs and names as He.hookD tells them, and one Bool of one's own beside them. -/
namespace Er
open PySem PySem.Spec PyProof.Rows L2
def obsX (xb : PySem.W.Frag → Bool) (fa : List He.Fa) (fn : List He.DefD) (K : PySem.W.Frag) : He.AlD := ((He.obsD fa fn K).1 && xb K, (He.obsD fa fn K).2)
def SaysX (xb : PySem.W.Frag → Bool) (fa : List He.Fa) (fn : List He.DefD) (K : PySem.W.Frag) : Prop := obsX xb fa fn K = He.valD fn
def asX (g : Addr → Option Obj) (n : Nat) : List Addr := He.asD g n ++ [sysModules]
def obsXG (n : Nat) (xb : PySem.W.Frag → Bool) (fa : List He.Fa) (fn : List He.DefD) (g : Addr → Option Obj) : He.AlD := obsX xb fa fn (He.frG g (asX g n))
def hookX (n : Nat) (xb : PySem.W.Frag → Bool) (fa : List He.Fa) (fn : List He.DefD) : PySem.W.Hook where
  α := He.AlD
  obs := fun s => obsXG n xb fa fn s.heap.get?
  val := fun _ => He.valD fn
  says := fun _ h => ∃ K : PySem.W.Frag, K.In h ∧ SaysX xb fa fn K
  of := fun _ _ e => ⟨_, He.frG_in, e⟩
  keeps := fun _ _ _ ⟨K, hK, c⟩ k => ⟨K, PySem.W.Frag.In.keeps hK k, c⟩
theorem obsXG_eq {n : Nat} {xb : PySem.W.Frag → Bool} {fa : List He.Fa} {fn : List He.DefD} {g : Addr → Option Obj} {s : Shared} (h : ∀ a, g a = s.heap.get? a) : obsXG n xb fa fn g = (hookX n xb fa fn).obs s := by
  have e : g = s.heap.get? := funext h
  rw [e] <;> rfl
theorem SaysX.two {xb : PySem.W.Frag → Bool} {fa : List He.Fa} {fn : List He.DefD} {K : PySem.W.Frag} (c : SaysX xb fa fn K) : He.SaysD fa fn K ∧ xb K = true := by
  have e1 : ((He.obsD fa fn K).1 && xb K) = true := congrArg (fun z : He.AlD => z.1) c
  have e2 : (He.obsD fa fn K).2 = fn.map He.DefD.val := congrArg (fun z : He.AlD => z.2) c
  obtain ⟨h1, h2⟩ := Bool.and_eq_true_iff.mp e1
  exact ⟨Prod.ext h1 e2, h2⟩
end Er
set_option Elab.async false
set_option linter.all false
set_option maxRecDepth 100000
set_option maxHeartbeats 4000000
/-! The error classes of a text, all at once. -/
namespace Er
open PySem PySem.Spec PyProof.Rows L2
def veC : List Value := [.type "ValueError", .type "Exception", .type "BaseException", .type "object"]
def mroB (K : PySem.W.Frag) (x : Str) (l : List Value) : Bool := decide ((PySem.W.clsIn K (He.ga K x)).map (·.mro) = some l)
def nodupB : List Nat → Bool
  | [] => true
  | x :: r => !r.contains x && nodupB r
abbrev pI (K : PySem.W.Frag) : Addr := He.ma K (He.ga K "PourError") "__init__"
def errsB (K : PySem.W.Frag) (errs : List Str) : Bool := nodupB (He.ga K ("PourError" : Str) :: errs.map (He.ga K)) && (erB K (He.ga K "PourError") (pI K) && (mroB K "PourError" (.ref (He.ga K "PourError") :: veC) && (PySem.W.kitMeta "ValueError" &&
  (errs.all fun x => erB K (He.ga K x) (pI K) && mroB K x (.ref (He.ga K x) :: .ref (He.ga K "PourError") :: veC)))))
theorem facts_all {fa : List He.Fa} {fn : List He.DefD} {K : PySem.W.Frag} (c : He.SaysD fa fn K) : ∀ f ∈ fa, f.ok K = true := fun f hf => by
  obtain ⟨i, h1, h2⟩ := List.getElem_of_mem hf
  exact c.fact i (f := f) (by rw [List.getElem?_eq_getElem h1, h2])
theorem nodup_inj {f : Str → Nat} : ∀ {l : List Str}, nodupB (l.map f) = true → ∀ x ∈ l, ∀ y ∈ l, f x = f y → x = y
  | [], _, x, hx, _, _, _ => nomatch hx
  | a :: r, h, x, hx, y, hy, e => by
    have h' : (!(r.map f).contains (f a) && nodupB (r.map f)) = true := h
    obtain ⟨h1, h2⟩ := Bool.and_eq_true_iff.mp h'
    have out : ∀ z ∈ r, f z ≠ f a := fun z hz q => by
      have m : (r.map f).contains (f a) = true := List.contains_iff_mem.mpr (q ▸ List.mem_map_of_mem hz)
      rw [m] at h1
      cases h1
    rcases List.mem_cons.mp hx with ex | hx'
    · rcases List.mem_cons.mp hy with ey | hy'
      · rw [ex, ey]
      · rw [ex] at e
        exact absurd e.symm (out y hy')
    · rcases List.mem_cons.mp hy with ey | hy'
      · rw [ey] at e
        exact absurd e (out x hx')
      · exact nodup_inj h2 x hx' y hy' e
theorem kit_ref {K : PySem.W.Frag} {C D : Addr} {m : Value} {l : List Value} (hm : (PySem.W.clsIn K C).map (·.mro) = some (m :: l)) (hD : PySem.W.hasDictIn K D = true) (tD : PySem.W.typeIn K (.ref D) = some (.type "type")) :
    PySem.W.kitOne K (.ref C) (.ref D) = some (decide (C = D) || (m :: l).contains (.ref D)) := by
  obtain ⟨cd, hcd, hmr⟩ := Option.map_eq_some_iff.mp hm
  obtain ⟨cD, hcD, _⟩ := PySem.W.any_some hD
  unfold PySem.W.kitOne
  by_cases e : C = D
  · rw [if_pos (by rw [e]; exact beq_self_eq_true _), decide_eq_true e]
    rfl
  · have e1 : (Value.ref C == Value.ref D) = false := beq_eq_false_iff_ne.mpr fun q => e (Value.ref.inj q)
    rw [e1, if_neg Bool.false_ne_true, decide_eq_false e, Bool.false_or]
    have e2 : ((PySem.W.clsIn K D).isSome && PySem.W.typeIn K (.ref D) == some (.type "type")) = true := by rw [hcD, tD] <;> rfl
    show (if _ then PySem.W.subIn K (.ref C) (.ref D) else none) = _
    rw [if_pos e2]
    show (PySem.W.clsIn K C).bind _ = _
    rw [hcd, Option.bind_some]
    have e3 : cd.mro = m :: l := hmr
    show (if cd.mro.isEmpty = true then none else some (cd.mro.contains (.ref D))) = _
    rw [e3]
    rfl
theorem kit_type {K : PySem.W.Frag} {C : Addr} {n : String} {m : Value} {l : List Value} (hm : (PySem.W.clsIn K C).map (·.mro) = some (m :: l)) (hk : PySem.W.kitMeta n = true) :
    PySem.W.kitOne K (.ref C) (.type n) = some ((m :: l).contains (.type n)) := by
  obtain ⟨cd, hcd, hmr⟩ := Option.map_eq_some_iff.mp hm
  show (if (Value.ref C == Value.type n) = true then some true else if PySem.W.kitMeta n = true then PySem.W.subIn K (.ref C) (.type n) else none) = _
  have e1 : (Value.ref C == Value.type n) = false := beq_eq_false_iff_ne.mpr fun q => nomatch q
  rw [e1, if_neg Bool.false_ne_true, if_pos hk]
  show (PySem.W.clsIn K C).bind _ = _
  rw [hcd, Option.bind_some]
  have e3 : cd.mro = m :: l := hmr
  show (if cd.mro.isEmpty = true then none else some (cd.mro.contains (.type n))) = _
  rw [e3]
  rfl
/-- what is told of the error classes errs, PourError beside them -/
structure ErrsT (K : PySem.W.Frag) (errs : List Str) : Prop where
  er : ∀ x ∈ ("PourError" : Str) :: errs, ErC K (He.ga K x) (pI K)
  kit : ∀ x ∈ ("PourError" : Str) :: errs, ∀ y ∈ errs, PySem.W.kitOne K (.ref (He.ga K x)) (.ref (He.ga K y)) = some (decide (x = y))
  kitP : ∀ x ∈ ("PourError" : Str) :: errs, PySem.W.kitOne K (.ref (He.ga K x)) (.ref (He.ga K "PourError")) = some true
  kitV : ∀ x ∈ ("PourError" : Str) :: errs, PySem.W.kitOne K (.ref (He.ga K x)) (.type "ValueError") = some true
theorem errsB_ok {K : PySem.W.Frag} {errs : List Str} (hP : ("PourError" : Str) ∉ errs) (h : errsB K errs = true) : ErrsT K errs := by
  simp only [errsB, Bool.and_eq_true, mroB, decide_eq_true_eq] at h
  obtain ⟨x2, x3, x4, x5, x6⟩ := h
  have x6 : ∀ x ∈ errs, ErC K (He.ga K x) (pI K) ∧ (PySem.W.clsIn K (He.ga K x)).map (·.mro) = some (.ref (He.ga K x) :: .ref (He.ga K "PourError") :: veC) := fun x hx => by
    have z := List.all_eq_true.mp x6 x hx
    simp only [Bool.and_eq_true, decide_eq_true_eq] at z
    exact ⟨erB_ok z.1, z.2⟩
  have inj := nodup_inj (f := He.ga K) (l := ("PourError" : Str) :: errs) x2
  have er : ∀ x ∈ ("PourError" : Str) :: errs, ErC K (He.ga K x) (pI K) := fun x hx => by
    rcases List.mem_cons.mp hx with rfl | hx
    · exact erB_ok x3
    · exact (x6 x hx).1
  refine ⟨er, fun x hx y hy => ?_, fun x hx => ?_, fun x hx => ?_⟩
  · have hy' : y ∈ ("PourError" : Str) :: errs := List.mem_cons_of_mem _ hy
    have ey := er y hy'
    have key : ∀ l : List Value, (∀ z ∈ l, z = Value.ref (He.ga K x) ∨ z = .ref (He.ga K "PourError") ∨ z ∈ veC) → (decide (He.ga K x = He.ga K y) || l.contains (Value.ref (He.ga K y))) = decide (x = y) := fun l hl => by
      by_cases e : x = y
      · rw [decide_eq_true e, decide_eq_true (congrArg _ e)]
        rfl
      · have ne : ∀ z ∈ ("PourError" : Str) :: errs, z ≠ y → He.ga K z ≠ He.ga K y := fun z hz q w => q (inj z hz y hy' w)
        rw [decide_eq_false e, decide_eq_false (ne x hx e), Bool.false_or]
        refine Bool.eq_false_iff.mpr fun q => ?_
        have m := List.contains_iff_mem.mp q
        rcases hl _ m with z | z | z
        · exact ne x hx e (Value.ref.inj z).symm
        · exact ne _ (List.mem_cons_self ..) (fun w => hP (w ▸ hy)) (Value.ref.inj z).symm
        · simp [veC] at z
    rcases List.mem_cons.mp hx with rfl | hx'
    · rw [kit_ref x4 ey.hd ey.oex.tyC, key]
      intro z hz
      rcases List.mem_cons.mp hz with z' | z'
      · exact .inl z'
      · exact .inr (.inr z')
    · rw [kit_ref (x6 x hx').2 ey.hd ey.oex.tyC, key]
      intro z hz
      rcases List.mem_cons.mp hz with z' | z'
      · exact .inl z'
      · rcases List.mem_cons.mp z' with z2 | z2
        · exact .inr (.inl z2)
        · exact .inr (.inr z2)
  · have ep := er "PourError" (List.mem_cons_self ..)
    rcases List.mem_cons.mp hx with rfl | hx'
    · rw [kit_ref x4 ep.hd ep.oex.tyC]
      simp
    · rw [kit_ref (x6 x hx').2 ep.hd ep.oex.tyC]
      simp
  · rcases List.mem_cons.mp hx with rfl | hx'
    · rw [kit_type x4 x5]
      simp [veC]
    · rw [kit_type (x6 x hx').2 x5]
      simp [veC]
theorem mem_at {l : List Str} {x : Str} (i : Nat) (h : l[i]? = some x) : x ∈ l := List.mem_of_getElem? h
end Er
set_option Elab.async false
set_option linter.all false
set_option maxRecDepth 100000
set_option maxHeartbeats 0
namespace K10
open PySem PySem.Spec PyProof.Rows L2 Er
def top (i : Nat) : Stmt := PySem.Challenge.pw_dyedpours_k10_whole_dye_of_spots_and_sam.main.body.getD i (.Pass ⟨0, 0, 0, 0⟩)
def errs : List Str := (["BadYard", "BadSpot", "NoVessel", "BadMoment", "BadRow", "NotMixing"] : List PySem.Str)
def fI (K : PySem.W.Frag) : Addr := He.ma K (He.ga K "PourError") "__init__"
abbrev sInit : Stmt := inClass (top 2) 0
abbrev s__wall : Stmt := top 0
abbrev s_is_integer : Stmt := top 13
abbrev s_is_within : Stmt := top 14
abbrev s_is_name : Stmt := top 15
abbrev s_are_integers : Stmt := top 16
abbrev s_integer_of : Stmt := top 17
abbrev s_is_step : Stmt := top 21
abbrev s_vessel_taken : Stmt := top 22
abbrev s_vessel_brought : Stmt := top 23
abbrev s_moved_on : Stmt := top 24
abbrev s_is_spot : Stmt := top 25
abbrev s_is_sample : Stmt := top 26
abbrev s_step_in : Stmt := top 27
abbrev s_sample_in : Stmt := top 28
abbrev s_step_line : Stmt := top 29
abbrev s_sample_line : Stmt := top 30
abbrev s_check_spot : Stmt := top 32
abbrev s_check_moment : Stmt := top 33
abbrev s_meets : Stmt := top 34
abbrev s_still : Stmt := top 35
abbrev s_room_of : Stmt := top 37
abbrev s_stand_behind : Stmt := top 38
abbrev s_all_stands : Stmt := top 39
abbrev s_fault_of : Stmt := top 40
abbrev s_is_row : Stmt := top 41
abbrev s_judged : Stmt := top 42
abbrev s_is_mixing : Stmt := top 43
abbrev s_check_mixing : Stmt := top 44
abbrev s_dye_of : Stmt := top 45
abbrev s_dye : Stmt := top 46
abbrev s_stands : Stmt := top 47
abbrev s_keeps : Stmt := top 48
abbrev s_broken : Stmt := top 49
abbrev s_are_vessels : Stmt := top 55
abbrev s_vessels_in : Stmt := top 56
abbrev s_drawn : Stmt := top 57
abbrev s_next_level : Stmt := top 58
abbrev s_read_yard : Stmt := top 59
abbrev s_vessels_line : Stmt := top 60
abbrev s_yard_of : Stmt := top 61
abbrev s_pot : Stmt := top 64
abbrev s_take : Stmt := top 65
abbrev s_of : Stmt := top 66
abbrev s_some : Stmt := top 67
abbrev s_cells : Stmt := top 68
abbrev s_levels : Stmt := top 69
abbrev s_deed : Stmt := top 70
abbrev s_own : Stmt := top 71
abbrev s_spot_text : Stmt := top 72
abbrev s_text : Stmt := top 73
abbrev s_yard : Stmt := top 74
abbrev s_spots : Stmt := top 75
abbrev s_size : Stmt := top 76
abbrev s_dyes : Stmt := top 77
abbrev s_law_dye : Stmt := top 78
abbrev s_choices : Stmt := top 79
abbrev s_does_keep : Stmt := top 80
abbrev s_mixed : Stmt := top 81
abbrev s_sampled : Stmt := top 82
abbrev s_light : Stmt := top 83
abbrev s_is_mixed_right : Stmt := top 84
abbrev s_right : Stmt := top 85
abbrev s_law : Stmt := top 86
abbrev s_Yard___init__ : Stmt := inClass (top 62) 0
abbrev s_Yard___eq__ : Stmt := inClass (top 62) 1
abbrev s_Yard___len__ : Stmt := inClass (top 62) 2
abbrev s_Yard___contains__ : Stmt := inClass (top 62) 3
abbrev s_Yard_amount : Stmt := inClass (top 62) 4
abbrev s_Yard_level : Stmt := inClass (top 62) 5
abbrev s_Yard_with_step : Stmt := inClass (top 62) 6
abbrev s_Yard_with_sample : Stmt := inClass (top 62) 7
abbrev s_Yard_without_sample : Stmt := inClass (top 62) 8
abbrev s_Yard_bare : Stmt := inClass (top 62) 9
def xb (K : PySem.W.Frag) : Bool := sysB K && errsB K errs
def d_init : He.DefD := ⟨("PourError", some "__init__"), "__init__", "PourError.__init__", defArgs sInit, defBody sInit, defScope sInit, [], []⟩
def d__wall : He.DefD := ⟨("_wall", none), "_wall", "_wall", defArgs s__wall, defBody s__wall, defScope s__wall, [], []⟩
def d_is_integer : He.DefD := ⟨("is_integer", none), "is_integer", "is_integer", defArgs s_is_integer, defBody s_is_integer, defScope s_is_integer, [], []⟩
def d_is_within : He.DefD := ⟨("is_within", none), "is_within", "is_within", defArgs s_is_within, defBody s_is_within, defScope s_is_within, [], []⟩
def d_is_name : He.DefD := ⟨("is_name", none), "is_name", "is_name", defArgs s_is_name, defBody s_is_name, defScope s_is_name, [], []⟩
def d_are_integers : He.DefD := ⟨("are_integers", none), "are_integers", "are_integers", defArgs s_are_integers, defBody s_are_integers, defScope s_are_integers, [], []⟩
def d_integer_of : He.DefD := ⟨("integer_of", none), "integer_of", "integer_of", defArgs s_integer_of, defBody s_integer_of, defScope s_integer_of, [], []⟩
def d_is_step : He.DefD := ⟨("is_step", none), "is_step", "is_step", defArgs s_is_step, defBody s_is_step, defScope s_is_step, [], []⟩
def d_vessel_taken : He.DefD := ⟨("vessel_taken", none), "vessel_taken", "vessel_taken", defArgs s_vessel_taken, defBody s_vessel_taken, defScope s_vessel_taken, [], []⟩
def d_vessel_brought : He.DefD := ⟨("vessel_brought", none), "vessel_brought", "vessel_brought", defArgs s_vessel_brought, defBody s_vessel_brought, defScope s_vessel_brought, [], []⟩
def d_moved_on : He.DefD := ⟨("moved_on", none), "moved_on", "moved_on", defArgs s_moved_on, defBody s_moved_on, defScope s_moved_on, [], []⟩
def d_is_spot : He.DefD := ⟨("is_spot", none), "is_spot", "is_spot", defArgs s_is_spot, defBody s_is_spot, defScope s_is_spot, [], []⟩
def d_is_sample : He.DefD := ⟨("is_sample", none), "is_sample", "is_sample", defArgs s_is_sample, defBody s_is_sample, defScope s_is_sample, [], []⟩
def d_step_in : He.DefD := ⟨("step_in", none), "step_in", "step_in", defArgs s_step_in, defBody s_step_in, defScope s_step_in, [], []⟩
def d_sample_in : He.DefD := ⟨("sample_in", none), "sample_in", "sample_in", defArgs s_sample_in, defBody s_sample_in, defScope s_sample_in, [], []⟩
def d_step_line : He.DefD := ⟨("step_line", none), "step_line", "step_line", defArgs s_step_line, defBody s_step_line, defScope s_step_line, [], []⟩
def d_sample_line : He.DefD := ⟨("sample_line", none), "sample_line", "sample_line", defArgs s_sample_line, defBody s_sample_line, defScope s_sample_line, [], []⟩
def d_check_spot : He.DefD := ⟨("check_spot", none), "check_spot", "check_spot", defArgs s_check_spot, defBody s_check_spot, defScope s_check_spot, [], []⟩
def d_check_moment : He.DefD := ⟨("check_moment", none), "check_moment", "check_moment", defArgs s_check_moment, defBody s_check_moment, defScope s_check_moment, [], []⟩
def d_meets : He.DefD := ⟨("meets", none), "meets", "meets", defArgs s_meets, defBody s_meets, defScope s_meets, [], []⟩
def d_still : He.DefD := ⟨("still", none), "still", "still", defArgs s_still, defBody s_still, defScope s_still, [], []⟩
def d_room_of : He.DefD := ⟨("room_of", none), "room_of", "room_of", defArgs s_room_of, defBody s_room_of, defScope s_room_of, [], []⟩
def d_stand_behind : He.DefD := ⟨("stand_behind", none), "stand_behind", "stand_behind", defArgs s_stand_behind, defBody s_stand_behind, defScope s_stand_behind, [], []⟩
def d_all_stands : He.DefD := ⟨("all_stands", none), "all_stands", "all_stands", defArgs s_all_stands, defBody s_all_stands, defScope s_all_stands, [], []⟩
def d_fault_of : He.DefD := ⟨("fault_of", none), "fault_of", "fault_of", defArgs s_fault_of, defBody s_fault_of, defScope s_fault_of, [], []⟩
def d_is_row : He.DefD := ⟨("is_row", none), "is_row", "is_row", defArgs s_is_row, defBody s_is_row, defScope s_is_row, [], []⟩
def d_judged : He.DefD := ⟨("judged", none), "judged", "judged", defArgs s_judged, defBody s_judged, defScope s_judged, [], []⟩
def d_is_mixing : He.DefD := ⟨("is_mixing", none), "is_mixing", "is_mixing", defArgs s_is_mixing, defBody s_is_mixing, defScope s_is_mixing, [], []⟩
def d_check_mixing : He.DefD := ⟨("check_mixing", none), "check_mixing", "check_mixing", defArgs s_check_mixing, defBody s_check_mixing, defScope s_check_mixing, [], []⟩
def d_dye_of : He.DefD := ⟨("dye_of", none), "dye_of", "dye_of", defArgs s_dye_of, defBody s_dye_of, defScope s_dye_of, [], []⟩
def d_dye : He.DefD := ⟨("dye", none), "dye", "dye", defArgs s_dye, defBody s_dye, defScope s_dye, [], []⟩
def d_stands : He.DefD := ⟨("stands", none), "stands", "stands", defArgs s_stands, defBody s_stands, defScope s_stands, [], []⟩
def d_keeps : He.DefD := ⟨("keeps", none), "keeps", "keeps", defArgs s_keeps, defBody s_keeps, defScope s_keeps, [], []⟩
def d_broken : He.DefD := ⟨("broken", none), "broken", "broken", defArgs s_broken, defBody s_broken, defScope s_broken, [], []⟩
def d_are_vessels : He.DefD := ⟨("are_vessels", none), "are_vessels", "are_vessels", defArgs s_are_vessels, defBody s_are_vessels, defScope s_are_vessels, [], []⟩
def d_vessels_in : He.DefD := ⟨("vessels_in", none), "vessels_in", "vessels_in", defArgs s_vessels_in, defBody s_vessels_in, defScope s_vessels_in, [], []⟩
def d_drawn : He.DefD := ⟨("drawn", none), "drawn", "drawn", defArgs s_drawn, defBody s_drawn, defScope s_drawn, [], []⟩
def d_next_level : He.DefD := ⟨("next_level", none), "next_level", "next_level", defArgs s_next_level, defBody s_next_level, defScope s_next_level, [], []⟩
def d_read_yard : He.DefD := ⟨("read_yard", none), "read_yard", "read_yard", defArgs s_read_yard, defBody s_read_yard, defScope s_read_yard, [], []⟩
def d_vessels_line : He.DefD := ⟨("vessels_line", none), "vessels_line", "vessels_line", defArgs s_vessels_line, defBody s_vessels_line, defScope s_vessels_line, [], []⟩
def d_yard_of : He.DefD := ⟨("yard_of", none), "yard_of", "yard_of", defArgs s_yard_of, defBody s_yard_of, defScope s_yard_of, [], []⟩
def d_pot : He.DefD := ⟨("_law_pot", none), "_law_pot", "_law_pot", defArgs s_pot, defBody s_pot, defScope s_pot, [], []⟩
def d_take : He.DefD := ⟨("_law_take", none), "_law_take", "_law_take", defArgs s_take, defBody s_take, defScope s_take, [], []⟩
def d_of : He.DefD := ⟨("_law_of", none), "_law_of", "_law_of", defArgs s_of, defBody s_of, defScope s_of, [], []⟩
def d_some : He.DefD := ⟨("_law_some", none), "_law_some", "_law_some", defArgs s_some, defBody s_some, defScope s_some, [], []⟩
def d_cells : He.DefD := ⟨("_law_cells", none), "_law_cells", "_law_cells", defArgs s_cells, defBody s_cells, defScope s_cells, [], []⟩
def d_levels : He.DefD := ⟨("_law_levels", none), "_law_levels", "_law_levels", defArgs s_levels, defBody s_levels, defScope s_levels, [], []⟩
def d_deed : He.DefD := ⟨("_law_deed", none), "_law_deed", "_law_deed", defArgs s_deed, defBody s_deed, defScope s_deed, [], []⟩
def d_own : He.DefD := ⟨("_law_own", none), "_law_own", "_law_own", defArgs s_own, defBody s_own, defScope s_own, [], []⟩
def d_spot_text : He.DefD := ⟨("_law_spot_text", none), "_law_spot_text", "_law_spot_text", defArgs s_spot_text, defBody s_spot_text, defScope s_spot_text, [], []⟩
def d_text : He.DefD := ⟨("_law_text", none), "_law_text", "_law_text", defArgs s_text, defBody s_text, defScope s_text, [], []⟩
def d_yard : He.DefD := ⟨("_law_yard", none), "_law_yard", "_law_yard", defArgs s_yard, defBody s_yard, defScope s_yard, [], []⟩
def d_spots : He.DefD := ⟨("_law_spots", none), "_law_spots", "_law_spots", defArgs s_spots, defBody s_spots, defScope s_spots, [], []⟩
def d_size : He.DefD := ⟨("_law_size", none), "_law_size", "_law_size", defArgs s_size, defBody s_size, defScope s_size, [], []⟩
def d_dyes : He.DefD := ⟨("_law_dyes", none), "_law_dyes", "_law_dyes", defArgs s_dyes, defBody s_dyes, defScope s_dyes, [], []⟩
def d_law_dye : He.DefD := ⟨("_law_dye", none), "_law_dye", "_law_dye", defArgs s_law_dye, defBody s_law_dye, defScope s_law_dye, [], []⟩
def d_choices : He.DefD := ⟨("_law_choices", none), "_law_choices", "_law_choices", defArgs s_choices, defBody s_choices, defScope s_choices, [], []⟩
def d_does_keep : He.DefD := ⟨("_law_does_keep", none), "_law_does_keep", "_law_does_keep", defArgs s_does_keep, defBody s_does_keep, defScope s_does_keep, [], []⟩
def d_mixed : He.DefD := ⟨("_law_mixed", none), "_law_mixed", "_law_mixed", defArgs s_mixed, defBody s_mixed, defScope s_mixed, [], []⟩
def d_sampled : He.DefD := ⟨("_law_sampled", none), "_law_sampled", "_law_sampled", defArgs s_sampled, defBody s_sampled, defScope s_sampled, [], []⟩
def d_light : He.DefD := ⟨("_law_light", none), "_law_light", "_law_light", defArgs s_light, defBody s_light, defScope s_light, [], []⟩
def d_is_mixed_right : He.DefD := ⟨("_law_is_mixed_right", none), "_law_is_mixed_right", "_law_is_mixed_right", defArgs s_is_mixed_right, defBody s_is_mixed_right, defScope s_is_mixed_right, [], []⟩
def d_right : He.DefD := ⟨("_law_right", none), "_law_right", "_law_right", defArgs s_right, defBody s_right, defScope s_right, [], []⟩
def d_law : He.DefD := ⟨("law", none), "law", "law", defArgs s_law, defBody s_law, defScope s_law, [], []⟩
def d_Yard___init__ : He.DefD := ⟨("Yard", some "__init__"), "__init__", "Yard.__init__", defArgs s_Yard___init__, defBody s_Yard___init__, defScope s_Yard___init__, [], []⟩
def d_Yard___eq__ : He.DefD := ⟨("Yard", some "__eq__"), "__eq__", "Yard.__eq__", defArgs s_Yard___eq__, defBody s_Yard___eq__, defScope s_Yard___eq__, [], []⟩
def d_Yard___len__ : He.DefD := ⟨("Yard", some "__len__"), "__len__", "Yard.__len__", defArgs s_Yard___len__, defBody s_Yard___len__, defScope s_Yard___len__, [], []⟩
def d_Yard___contains__ : He.DefD := ⟨("Yard", some "__contains__"), "__contains__", "Yard.__contains__", defArgs s_Yard___contains__, defBody s_Yard___contains__, defScope s_Yard___contains__, [], []⟩
def d_Yard_amount : He.DefD := ⟨("Yard", some "amount"), "amount", "Yard.amount", defArgs s_Yard_amount, defBody s_Yard_amount, defScope s_Yard_amount, [], []⟩
def d_Yard_level : He.DefD := ⟨("Yard", some "level"), "level", "Yard.level", defArgs s_Yard_level, defBody s_Yard_level, defScope s_Yard_level, [], []⟩
def d_Yard_with_step : He.DefD := ⟨("Yard", some "with_step"), "with_step", "Yard.with_step", defArgs s_Yard_with_step, defBody s_Yard_with_step, defScope s_Yard_with_step, [], []⟩
def d_Yard_with_sample : He.DefD := ⟨("Yard", some "with_sample"), "with_sample", "Yard.with_sample", defArgs s_Yard_with_sample, defBody s_Yard_with_sample, defScope s_Yard_with_sample, [], []⟩
def d_Yard_without_sample : He.DefD := ⟨("Yard", some "without_sample"), "without_sample", "Yard.without_sample", defArgs s_Yard_without_sample, defBody s_Yard_without_sample, defScope s_Yard_without_sample, [], []⟩
def d_Yard_bare : He.DefD := ⟨("Yard", some "bare"), "bare", "Yard.bare", defArgs s_Yard_bare, defBody s_Yard_bare, defScope s_Yard_bare, [], []⟩
def fn : List He.DefD := [d_init, d__wall, d_is_integer, d_is_within, d_is_name, d_are_integers, d_integer_of, d_is_step, d_vessel_taken, d_vessel_brought, d_moved_on, d_is_spot, d_is_sample, d_step_in, d_sample_in, d_step_line, d_sample_line, d_check_spot, d_check_moment, d_meets, d_still, d_room_of, d_stand_behind, d_all_stands, d_fault_of, d_is_row, d_judged, d_is_mixing, d_check_mixing, d_dye_of, d_dye, d_stands, d_keeps, d_broken, d_are_vessels, d_vessels_in, d_drawn, d_next_level, d_read_yard, d_vessels_line, d_yard_of, d_pot, d_take, d_of, d_some, d_cells, d_levels, d_deed, d_own, d_spot_text, d_text, d_yard, d_spots, d_size, d_dyes, d_law_dye, d_choices, d_does_keep, d_mixed, d_sampled, d_light, d_is_mixed_right, d_right, d_law, d_Yard___init__, d_Yard___eq__, d_Yard___len__, d_Yard___contains__, d_Yard_amount, d_Yard_level, d_Yard_with_step, d_Yard_with_sample, d_Yard_without_sample, d_Yard_bare]
def frees : List Str := (["abs", "all", "any", "bool", "dict", "enumerate", "int", "isinstance", "len", "list", "max", "min", "range", "repr", "set", "str", "sum", "tuple", "zip", "ValueError"] : List PySem.Str)
def gdefs : List Str := (["_wall", "is_integer", "is_within", "is_name", "are_integers", "integer_of", "is_step", "vessel_taken", "vessel_brought", "moved_on", "is_spot", "is_sample", "step_in", "sample_in", "step_line", "sample_line", "check_spot", "check_moment", "meets", "still"] : List PySem.Str) ++ (["room_of", "stand_behind", "all_stands", "fault_of", "is_row", "judged", "is_mixing", "check_mixing", "dye_of", "dye", "stands", "keeps", "broken", "are_vessels", "vessels_in", "drawn", "next_level", "read_yard", "vessels_line", "yard_of"] : List PySem.Str) ++ (["_law_pot", "_law_take", "_law_of", "_law_some", "_law_cells", "_law_levels", "_law_deed", "_law_own", "_law_spot_text", "_law_text", "_law_yard", "_law_spots", "_law_size", "_law_dyes", "_law_dye", "_law_choices", "_law_does_keep", "_law_mixed", "_law_sampled", "_law_light"] : List PySem.Str) ++ (["_law_is_mixed_right", "_law_right", "law", "Yard"] : List PySem.Str)
def faMore : List He.Fa := [.int "LONGEST_NAME" 8, .int "MOST_AMOUNT" 99, .int "MOST_NUMBER" 9999, .int "MOST_VESSELS" 6, .int "MOST_STEPS" 14, .int "MOST_SAMPLES" 6, .int "MOST_ENDS" 9, .str "LETTERS" "abcdefghijklmnopqrstuvwxyz", .str "DIGITS" "0123456789", .cls "Yard", .mkr "Yard", .noat "Yard" "ends", .noat "Yard" "levels", .noat "Yard" "samples", .noat "Yard" "steps", .noat "Yard" "text", .noat "Yard" "vessels", .meth "Yard" "__init__", .meth "Yard" "__eq__", .meth "Yard" "__len__", .meth "Yard" "__contains__", .meth "Yard" "amount", .meth "Yard" "level", .meth "Yard" "with_step", .meth "Yard" "with_sample", .meth "Yard" "without_sample", .meth "Yard" "bare"]
def fa : List He.Fa := frees.map He.Fa.free ++ (gdefs.map He.Fa.glo ++ (("PourError" : Str) :: errs).map He.Fa.glo) ++ faMore
abbrev R : PySem.W.OpenRow := PySem.W.OpenLaw.row PySem.Challenge.rw_dyedpours_k10_whole_dye_of_spots_and_sam
abbrev hk : PySem.W.Hook := hookX 5 xb fa fn
def ob (s : PySem.W.SharedT) : He.AlD := obsXG 5 xb fa fn (HandSHeadRun.getT s)
theorem ob_eq (s : PySem.W.SharedT) : ob s = hk.obs s.abs := obsXG_eq (HandSHeadRun.getT_eq s)
def loose : List PySem.Str := (["_wall", "PourError", "BadYard", "BadSpot", "NoVessel", "BadMoment", "BadRow", "NotMixing", "LETTERS", "DIGITS", "LONGEST_NAME", "is_integer", "is_within", "is_name", "are_integers", "integer_of", "MOST_AMOUNT", "MOST_NUMBER", "is_step", "vessel_taken"] : List PySem.Str) ++ (["vessel_brought", "moved_on", "is_spot", "is_sample", "step_in", "sample_in", "step_line", "sample_line", "check_spot", "check_moment", "meets", "still", "room_of", "stand_behind", "all_stands", "fault_of", "is_row", "judged", "is_mixing", "check_mixing"] : List PySem.Str) ++ (["dye_of", "dye", "stands", "keeps", "broken", "MOST_VESSELS", "MOST_STEPS", "MOST_SAMPLES", "MOST_ENDS", "are_vessels", "vessels_in", "drawn", "next_level", "read_yard", "vessels_line", "yard_of", "Yard", "_law_pot", "_law_take", "_law_of"] : List PySem.Str) ++ (["_law_some", "_law_cells", "_law_levels", "_law_deed", "_law_own", "_law_spot_text", "_law_text", "_law_yard", "_law_spots", "_law_size", "_law_dyes", "_law_dye", "_law_choices", "_law_does_keep", "_law_mixed", "_law_sampled", "_law_light", "_law_is_mixed_right", "_law_right"] : List PySem.Str)
theorem run (w : World) : HandSHeadRun.RunEq R (PySem.W.view R.prog [86]) hk ob 30000 loose w := by
  intro os
  kernel_rfl
end K10
set_option Elab.async false
set_option linter.all false
set_option maxRecDepth 100000
set_option maxHeartbeats 4000000
/-! The law's own draws: a pot of three ints. -/
namespace Er
open PySem PySem.Spec PyProof.Rows L2
def CPowC (i j : Int) : Prop := (decide (0 ≤ j) && (!(j == 0) && (!(i == 0 || i == 1) && (!(i == -1) && !Builtin.Int.intTooBig (((Builtin.Int.intBits i : Nat) : Int) * j))))) = true
theorem op_powC {X : Cx} : OpR X (binaryOp .Pow) (rI CPowC fun i j => .int (i ^ j.toNat)) := opI fun i j t u s Q E hc q => by
  simp only [CPowC, Bool.and_eq_true, decide_eq_true_eq, Bool.not_eq_true'] at hc
  obtain ⟨h1, h2, h3, h4, h5⟩ := hc
  exact AutoIntOps.pow_4 h1 (by rw [h2]; decide) (by rw [h3]; decide) (by rw [h4]; decide) (by rw [h5]; decide) q
def Pot (H : Hp) (p : Addr) (n : Int) : Prop := ∃ a b c : Int, H p = some (.lst [.int a, .int b, .int c]) ∧ 0 ≤ a ∧ 0 ≤ b ∧ b < 2 ^ 61 ∧ 0 ≤ c ∧ c ≤ n ∧ n ≤ 100000
/-- what is tracked beside p -/
abbrev But (H : Hp) (p : Addr) : Hp := del H p
theorem but_upd {H : Hp} {p : Addr} {o : HO} : But (upd H p o) p = But H p := by
  funext b
  by_cases e : b = p
  · rw [e]
    exact del_same.trans del_same.symm
  · exact (del_ne e).trans ((upd_ne e).trans (del_ne e).symm)
theorem but_new {H : Hp} {p q : Addr} {o : HO} (hq : H q = none) (hp : H p ≠ none) : But (upd H q o) p = upd (But H p) q o := by
  have ne : q ≠ p := fun e => hp (e ▸ hq)
  funext b
  by_cases e : b = p
  · rw [e, upd_ne ne.symm]
    exact del_same.trans del_same.symm
  · show del (upd H q o) p b = upd (del H p) q o b
    rw [del_ne e]
    by_cases e2 : b = q
    · rw [e2, upd_same, upd_same]
    · rw [upd_ne e2, upd_ne e2, del_ne e]
theorem same_new {H : Hp} {q : Addr} {o : HO} (hq : H q = none) : Same H (upd H q o) := fun b u e => by
  rw [upd_ne (ne_of_none e hq)]
  exact e
theorem but_none {H : Hp} {p q : Addr} (h : H q = none) : But H p q = none := by
  by_cases e : q = p
  · rw [e]
    exact del_same
  · exact (del_ne e).trans h
theorem but_same {H : Hp} {p : Addr} : Same (But H p) H := fun b o e => by
  by_cases h : b = p
  · rw [h] at e
    exact absurd (del_same.symm.trans e) (fun z => nomatch z)
  · exact (del_ne h).symm.trans e
theorem same_but {H H' : Hp} {p : Addr} (s : Same H H') : Same (But H p) (But H' p) := fun b o e => by
  by_cases h : b = p
  · rw [h] at e
    exact absurd (del_same.symm.trans e) (fun z => nomatch z)
  · have e1 : H b = some o := (del_ne h).symm.trans e
    exact (del_ne h).trans (s b o e1)
def spTake : Sp := fun vs H Q _ => ∃ (p : Addr) (u n : Int), vs = [.ref p, .int u] ∧ 0 < u ∧ u < 1073741824 ∧ Pot H p n ∧ n < 100000 ∧
  ∀ (H' : Hp) (r : Int), Same (But H p) (But H' p) → Pot H' p (n + 1) → 0 ≤ r → r < u → Q (.int r) H'
end Er
namespace Er
open PySem PySem.Spec PyProof.Rows L2
/-! readings one step at a time -/
section
variable {t u : TS} {D : Ends} {σ : L2.St} {H : Hp} {te : TE} {ta tr : TA} {g : TG} {Q : VK} {r : R2} {ra : List V → Hp → VK → Prop} {tb : TE}
theorem i_seq (h : t { D with nx := u D } σ H) : tSeq t u D σ H := h
theorem i_asg (h : te σ H fun x H1 => g x σ H1 D.nx) : tAsg te g D σ H := h
theorem i_lst (h : ta σ H fun xs H1 => xs.length ≤ sizeLine ∧ ∀ p, H1 p = none → Q (.ref p) (upd H1 p (.lst xs))) : tLst ta σ H Q := h
theorem i_tup (h : ta σ H fun xs H1 => xs.length ≤ sizeLine ∧ ∀ p, H1 p = none → Q (.ref p) (upd H1 p (.tup xs))) : tTup ta σ H Q := h
theorem i_op (h : te σ H fun x H1 => tb σ H1 fun y H2 => r x y H2 Q) : tOp r te tb σ H Q := h
theorem i_cb (h : ta σ H fun vs H1 => ra vs H1 Q) : tCB ra ta σ H Q := h
theorem i_cons {Qa : List V → Hp → Prop} (h : te σ H fun x H1 => tr σ H1 fun xs H2 => Qa (x :: xs) H2) : tCons te tr σ H Qa := h
theorem i_nil {Qa : List V → Hp → Prop} (h : Qa [] H) : tNil σ H Qa := h
theorem i_set {i : Nat} (h : te σ H fun x H1 => u D (σ.set i (some x)) H1) : tSeq (tAsg te (gName i)) u D σ H := h
theorem i_do (h : te σ H fun _ H1 => u D σ H1) : tSeq (tDrop te) u D σ H := h
theorem i_ifs {c : TT} {t2 : TS} (h : c σ H fun b H1 => if b = true then t { D with nx := u D } σ H1 else t2 { D with nx := u D } σ H1) : tSeq (tIfS c t t2) u D σ H := h
theorem i_if0 {c : TT} (h : c σ H fun b H1 => if b = true then t { D with nx := u D } σ H1 else u D σ H1) : tSeq (tIfS c t tNext) u D σ H := h
theorem i_if1 {c : TT} (h : c σ H fun b H1 => if b = true then t D σ H1 else D.nx σ H1) : tIfS c t tNext D σ H := h
theorem i_drop (h : te σ H fun _ H1 => D.nx σ H1) : tDrop te D σ H := h
theorem i_ret (h : te σ H D.rt) : tRet te D σ H := h
theorem i_var {i : Nat} {v : V} (e : σ[i]? = some (some v)) (h : Q v H) : tVar i σ H Q := ⟨v, e, h⟩
theorem i_c {v : V} (h : Q v H) : tC v σ H Q := h
theorem i_if {c : TT} (h : c σ H fun b H1 => if b = true then t D σ H1 else u D σ H1) : tIfS c t u D σ H := h
theorem i_call {sp : Sp} {dvs : List V} {E : XK} (h : ta σ H fun vs H1 => sp (vs ++ dvs) H1 Q E) : tCall sp dvs E ta σ H Q := h
end
end Er
set_option Elab.async false
set_option linter.all false
set_option maxRecDepth 100000
set_option maxHeartbeats 4000000
/-! Data made anew, while the pot is drawn from. -/
namespace Er
open PySem PySem.Spec PyProof.Rows L2
/-- the abstract heap without some addresses -/
def hid (H : Hp) (l : List Addr) : Hp := fun b => if b ∈ l then none else H b
theorem hid_in {H : Hp} {l : List Addr} {b : Addr} (h : b ∈ l) : hid H l b = none := if_pos h
theorem hid_ne {H : Hp} {l : List Addr} {b : Addr} (h : b ∉ l) : hid H l b = H b := if_neg h
theorem hid_some {H : Hp} {l : List Addr} {b : Addr} {o : HO} (h : hid H l b = some o) : b ∉ l ∧ H b = some o := by
  by_cases e : b ∈ l
  · rw [hid_in e] at h
    cases h
  · exact ⟨e, (hid_ne e).symm.trans h⟩
theorem hid_same {H H' : Hp} {p : Addr} {l : List Addr} (s : Same (But H p) (But H' p)) : Same (hid H (p :: l)) (hid H' (p :: l)) := fun b o e => by
  obtain ⟨h1, h2⟩ := hid_some e
  rw [hid_ne h1]
  have ne : b ≠ p := fun z => h1 (z ▸ List.mem_cons_self ..)
  exact (del_ne ne).symm.trans (s b o ((del_ne ne).trans h2))
theorem hid_le {H : Hp} {p : Addr} {l : List Addr} : Same (hid H (p :: l)) (But H p) := fun b o e => by
  obtain ⟨h1, h2⟩ := hid_some e
  exact (del_ne (fun z => h1 (by rw [z]; exact List.mem_cons_self ..))).trans h2
theorem pot_some {H : Hp} {p : Addr} {n : Int} (h : Pot H p n) : H p ≠ none := by
  obtain ⟨a, b, c, e, _⟩ := h
  rw [e]
  exact fun z => nomatch z
theorem keep_some {H H' : Hp} {p b : Addr} (s : Same (But H p) (But H' p)) (hp : H' p ≠ none) (h : H b ≠ none) : H' b ≠ none := by
  by_cases e : b = p
  · rw [e]
    exact hp
  · intro z
    cases q : H b with
    | none => exact h q
    | some o =>
      have w := s b o ((del_ne e).trans q)
      rw [show But H' p b = H' b from del_ne e, z] at w
      cases w
theorem keep_none {H H' : Hp} {p b : Addr} (s : Same (But H p) (But H' p)) (hp : H' p ≠ none) (h : H' b = none) : H b = none := by
  cases q : H b with
  | none => rfl
  | some o => exact absurd h (keep_some s hp (by rw [q]; exact fun z => nomatch z))
/-- v is the datum d in objects that are new since H (and are not the pot) -/
def Fre (K : PySem.W.Frag) (H H' : Hp) (p : Addr) (v : V) (d : PyData) : Prop := ∀ l : List Addr, (∀ q ∈ l, H q ≠ none) → Sh K (hid H' (p :: l)) v d
def FreAll (K : PySem.W.Frag) (H H' : Hp) (p : Addr) (vs : List V) (ds : List PyData) : Prop := ∀ l : List Addr, (∀ q ∈ l, H q ≠ none) → ShAll K (hid H' (p :: l)) vs ds
theorem ShAll.len {K : PySem.W.Frag} {H : Hp} : ∀ {vs : List V} {ds : List PyData}, ShAll K H vs ds → vs.length = ds.length
  | _, _, .nil => rfl
  | _, _, .cons _ t => congrArg (· + 1) (ShAll.len t)
section
variable {K : PySem.W.Frag} {H H1 H2 : Hp} {p : Addr} {v : V} {d : PyData} {vs : List V} {ds : List PyData}
theorem FreAll.len (h : FreAll K H H1 p vs ds) : vs.length = ds.length := (h [] fun q z => nomatch z).len
theorem Fre.on (h : Fre K H H1 p v d) (s : Same (But H1 p) (But H2 p)) : Fre K H H2 p v d := fun l hl => (h l hl).same (hid_same s)
theorem FreAll.on (h : FreAll K H H1 p vs ds) (s : Same (But H1 p) (But H2 p)) : FreAll K H H2 p vs ds := fun l hl => (h l hl).same (hid_same s)
theorem Fre.back (h : Fre K H1 H2 p v d) (s : Same (But H p) (But H1 p)) (hp : H1 p ≠ none) : Fre K H H2 p v d := fun l hl => h l fun q hq => keep_some s hp (hl q hq)
theorem FreAll.back (h : FreAll K H1 H2 p vs ds) (s : Same (But H p) (But H1 p)) (hp : H1 p ≠ none) : FreAll K H H2 p vs ds := fun l hl => h l fun q hq => keep_some s hp (hl q hq)
theorem FreAll.cons (h : Fre K H H2 p v d) (t : FreAll K H H2 p vs ds) : FreAll K H H2 p (v :: vs) (d :: ds) := fun l hl => .cons (h l hl) (t l hl)
theorem ShAll.mem : ∀ {vs : List V} {ds : List PyData}, ShAll K H vs ds → v ∈ vs → ∃ d ∈ ds, Sh K H v d
  | _, _, .nil, h => nomatch h
  | _, _, .cons h1 h2, h => by
    rcases List.mem_cons.mp h with e | h
    · exact ⟨_, List.mem_cons_self .., e ▸ h1⟩
    · obtain ⟨d, m, s⟩ := ShAll.mem h2 h
      exact ⟨d, List.mem_cons_of_mem _ m, s⟩
theorem ShAll.at : ∀ {vs : List V} {ds : List PyData} {i : Nat} {v : V}, ShAll K H vs ds → vs[i]? = some v → ∃ d, ds[i]? = some d ∧ Sh K H v d
  | _, _, _, _, .nil, h => by simp at h
  | _, _, 0, v, .cons h1 h2, h => by
    simp at h
    exact ⟨_, rfl, h ▸ h1⟩
  | _, _, i + 1, v, .cons h1 h2, h => by
    obtain ⟨d, m, s⟩ := ShAll.at (i := i) h2 (by simpa using h)
    exact ⟨d, by simpa using m, s⟩
/-- one of a list's: the same place for every choice of hidden ones -/
theorem FreAll.mem (h : FreAll K H H1 p vs ds) (hv : v ∈ vs) : ∃ d ∈ ds, Fre K H H1 p v d := by
  obtain ⟨i, hi, e⟩ := List.getElem_of_mem hv
  have hi' : vs[i]? = some v := by rw [List.getElem?_eq_getElem hi, e]
  obtain ⟨d, hd, _⟩ := (h [] fun q z => nomatch z).at hi'
  refine ⟨d, List.mem_of_getElem? hd, fun l hl => ?_⟩
  obtain ⟨d', hd', s⟩ := (h l hl).at hi'
  rw [hd] at hd'
  cases hd'
  exact s
theorem FreAll.app {vs' : List V} {ds' : List PyData} (h : FreAll K H H1 p vs ds) (h' : FreAll K H H1 p vs' ds') : FreAll K H H1 p (vs ++ vs') (ds ++ ds') := fun l hl => by
  have key : ∀ {xs : List V} {es : List PyData}, ShAll K (hid H1 (p :: l)) xs es → ShAll K (hid H1 (p :: l)) (xs ++ vs') (es ++ ds') := by
    intro xs
    induction xs with
    | nil =>
      intro es a
      cases a
      exact h' l hl
    | cons x r ih =>
      intro es a
      cases a with
      | cons a1 a2 => exact .cons a1 (ih a2)
  exact key (h l hl)
theorem hid_new {q : Addr} {o : HO} {l : List Addr} (hq : H1 q = none) (hp : H1 p ≠ none) (hl : ∀ q ∈ l, H1 q ≠ none) : hid (upd H1 q o) (p :: l) q = some o := by
  rw [hid_ne, upd_same]
  intro z
  rcases List.mem_cons.mp z with e | e
  · exact hp (e ▸ hq)
  · exact hl q e hq
theorem but_mut {q : Addr} {o : HO} (hq : H q = none) (hp : H p ≠ none) (s : Same (But H p) (But H1 p)) : Same (But H p) (But (upd H1 q o) p) := fun b u e => by
  have hb : b ≠ p := fun z => by
    rw [z] at e
    exact absurd (del_same.symm.trans e) (fun z => nomatch z)
  have hbq : b ≠ q := fun z => by
    have e1 : H b = some u := (del_ne hb).symm.trans e
    rw [z, hq] at e1
    cases e1
  have w := s b u e
  rw [show But H1 p b = H1 b from del_ne hb] at w
  exact (del_ne hb).trans ((upd_ne hbq).trans w)
theorem but_fresh {q : Addr} {o : HO} (hq : H1 q = none) (hp : H1 p ≠ none) : Same (But H1 p) (But (upd H1 q o) p) := by
  rw [but_new hq hp]
  exact same_new (but_none hq)
end
/-! ### what evaluates to new data, c draws in all -/
def EvP (K : PySem.W.Frag) (te : TE) (σ : L2.St) (p : Addr) (c : Int) (R : PyData → Prop) : Prop := ∀ (H : Hp) (n : Int), Pot H p n → n + c ≤ 100000 → ∀ Q : VK,
  (∀ v d H', R d → Same (But H p) (But H' p) → Pot H' p (n + c) → Fre K H H' p v d → Q v H') → te σ H Q
def EvPs (K : PySem.W.Frag) (ta : TA) (σ : L2.St) (p : Addr) (c : Int) (R : List PyData → Prop) : Prop := ∀ (H : Hp) (n : Int), Pot H p n → n + c ≤ 100000 → ∀ Q : List V → Hp → Prop,
  (∀ vs ds H', R ds → Same (But H p) (But H' p) → Pot H' p (n + c) → FreAll K H H' p vs ds → Q vs H') → ta σ H Q
theorem Pot.new {H : Hp} {p q : Addr} {n : Int} {o : HO} (h : Pot H p n) (hq : H q = none) : Pot (upd H q o) p n := by
  obtain ⟨a, b, c, e, r⟩ := h
  exact ⟨a, b, c, (upd_ne (ne_of_none e hq)).trans e, r⟩
theorem Pot.zero {H : Hp} {p : Addr} {n : Int} (h : Pot H p n) : Pot H p (n + 0) := by rw [Int.add_zero]; exact h
section
variable {K : PySem.W.Frag} {σ : L2.St} {p : Addr} {c c1 c2 : Int} {te : TE} {ta : TA} {R : PyData → Prop} {Rs : List PyData → Prop}
theorem evP_c {v : V} {d : PyData} (h : ∀ H, Sh K H v d) (r : R d) : EvP K (tC v) σ p 0 R := fun H n hp _ Q k => k v d H r (Same.refl _) hp.zero fun l _ => h _
theorem evPs_nil (r : Rs []) : EvPs K tNil σ p 0 Rs := fun H n hp _ Q k => k [] [] H r (Same.refl _) hp.zero fun l _ => .nil
theorem evPs_cons (h : EvP K te σ p c1 R) (t : EvPs K ta σ p c2 Rs) (h1 : 0 ≤ c1) (h2 : 0 ≤ c2) : EvPs K (tCons te ta) σ p (c1 + c2) (fun ds => ∃ d r, ds = d :: r ∧ R d ∧ Rs r) := fun H n hp hn Q k =>
  h H n hp (by omega) _ fun v d H1 rd s1 p1 f1 => t H1 (n + c1) p1 (by omega) _ fun vs ds H2 rs s2 p2 f2 =>
    k (v :: vs) (d :: ds) H2 ⟨d, ds, rfl, rd, rs⟩ (s1.trans s2) (by rw [← Int.add_assoc]; exact p2) (.cons (f1.on s2) (f2.back s1 (pot_some p1)))
theorem evP_tup (h : EvPs K ta σ p c Rs) (hl : ∀ ds, Rs ds → ds.length ≤ 1000) (hr : ∀ ds, Rs ds → R (.tuple ds)) : EvP K (tTup ta) σ p c R := fun H n hp hn Q k =>
  h H n hp hn _ fun vs ds H1 rs s1 p1 f1 => ⟨Nat.le_of_lt (small1000 (f1.len ▸ hl ds rs)), fun q hq =>
    k (.ref q) (.tuple ds) _ (hr ds rs) (s1.trans (but_fresh hq (pot_some p1))) (p1.new hq) fun l hl => .tup (.inl (.inl (hid_new hq (pot_some p1) fun b hb => keep_some s1 (pot_some p1) (hl b hb)))) ((f1.on (but_fresh hq (pot_some p1))) l hl)⟩
theorem evP_lst (h : EvPs K ta σ p c Rs) (hl : ∀ ds, Rs ds → ds.length ≤ 1000) (hr : ∀ ds, Rs ds → R (.list ds)) : EvP K (tLst ta) σ p c R := fun H n hp hn Q k =>
  h H n hp hn _ fun vs ds H1 rs s1 p1 f1 => ⟨Nat.le_of_lt (small1000 (f1.len ▸ hl ds rs)), fun q hq =>
    k (.ref q) (.list ds) _ (hr ds rs) (s1.trans (but_fresh hq (pot_some p1))) (p1.new hq) fun l hl => .lst (.inl (.inl (hid_new hq (pot_some p1) fun b hb => keep_some s1 (pot_some p1) (hl b hb)))) ((f1.on (but_fresh hq (pot_some p1))) l hl)⟩
theorem evP_d0 (r : R (.dict [])) : EvP K tDNewK σ p 0 R := fun H n hp hn Q k q hq =>
  k (.ref q) (.dict []) _ r (but_fresh hq (pot_some hp)) (hp.new hq).zero fun l hl => .dic (kvs := []) (hid_new hq (pot_some hp) hl) rfl .nil
theorem evP_d1 {x : Str} (h : EvP K te σ p c R) {R' : PyData → Prop} (hr : ∀ d, R d → R' (.dict [(.str x, d)])) : EvP K (tDisp [(tC (.str x), te)]) σ p c R' := fun H n hp hn Q k q hq => by
  have hpq : Pot (upd H q (.dK [])) p n := hp.new hq
  have s0 := but_fresh (o := .dK []) hq (pot_some hp)
  refine h _ n hpq hn _ fun v d H1 rd s1 p1 f1 => ?_
  have ne : q ≠ p := fun e => pot_some hp (e ▸ hq)
  have e1 : H1 q = some (.dK []) := by
    have w := s1 q (.dK []) ((del_ne ne).trans upd_same)
    exact (del_ne ne).symm.trans w
  refine ⟨e1, [(.inr x, v)], rfl, Nat.le_of_ble_eq_true rfl, ?_⟩
  show Q (.ref q) (upd H1 q (.dK [(.inr x, v)]))
  have s2 : Same (But H p) (But (upd H1 q (.dK [(.inr x, v)])) p) := but_mut hq (pot_some hp) (s0.trans s1)
  obtain ⟨a, b, c', e, r⟩ := p1
  refine k (.ref q) (.dict [(.str x, d)]) _ (hr d rd) s2 ⟨a, b, c', (upd_ne ne.symm).trans e, r⟩ fun l hl => ?_
  have hql : q ∉ p :: l := fun z => by
    rcases List.mem_cons.mp z with z | z
    · exact ne z
    · exact hl q z hq
  refine .dic (kvs := [(.inr x, v)]) ((hid_ne hql).trans upd_same) rfl (.cons ?_ .nil)
  -- the value was made while the dict stood hidden
  have w := f1 (q :: l) fun b hb => by
    rcases List.mem_cons.mp hb with z | z
    · rw [z, upd_same]
      exact fun z => nomatch z
    · rw [upd_ne (fun y => hl b z (by rw [y]; exact hq))]
      exact hl b z
  refine w.same fun b o z => ?_
  obtain ⟨z1, z2⟩ := hid_some z
  have b1 : b ≠ q := fun y => z1 (y ▸ List.mem_cons_of_mem _ (List.mem_cons_self ..))
  have b2 : b ∉ p :: l := fun y => z1 (by
    rcases List.mem_cons.mp y with y | y
    · exact y ▸ List.mem_cons_self ..
    · exact List.mem_cons_of_mem _ (List.mem_cons_of_mem _ y))
  exact (hid_ne b2).trans ((upd_ne b1).trans z2)
theorem EvP.imp {R' : PyData → Prop} (h : EvP K te σ p c R) (f : ∀ d, R d → R' d) : EvP K te σ p c R' := fun H n hp hn Q k => h H n hp hn Q fun v d H' r => k v d H' (f d r)
end
end Er
namespace Er
open PySem PySem.Spec PyProof.Rows L2
/-! just this datum, no draw -/
abbrev EvD (K : PySem.W.Frag) (te : TE) (σ : L2.St) (p : Addr) (d : PyData) : Prop := EvP K te σ p 0 (fun z => z = d)
abbrev EvDs (K : PySem.W.Frag) (ta : TA) (σ : L2.St) (p : Addr) (ds : List PyData) : Prop := EvPs K ta σ p 0 (fun z => z = ds)
section
variable {K : PySem.W.Frag} {σ : L2.St} {p : Addr} {te : TE} {ta : TA} {d : PyData} {ds : List PyData}
theorem evD_c {v : V} (h : ∀ H, Sh K H v d) : EvD K (tC v) σ p d := evP_c h rfl
theorem evD_neg {i : Int} : EvD K (tUn (rU fun i => .int (-i)) (tC (.int i))) σ p (.int (-i)) := fun H n hp hn Q k => ⟨i, rfl, k (.int (-i)) _ H rfl (Same.refl _) hp.zero fun l _ => .int _⟩
theorem evD_pow {i j : Int} (h : CPowC i j) : EvD K (tOp (rI CPowC fun i j => .int (i ^ j.toNat)) (tC (.int i)) (tC (.int j))) σ p (.int (i ^ j.toNat)) := fun H n hp hn Q k =>
  ⟨i, j, rfl, rfl, h, k (.int (i ^ j.toNat)) _ H rfl (Same.refl _) hp.zero fun l _ => .int _⟩
theorem evDs_nil : EvDs K tNil σ p [] := evPs_nil rfl
theorem evDs_cons (h : EvD K te σ p d) (t : EvDs K ta σ p ds) : EvDs K (tCons te ta) σ p (d :: ds) := fun H n hp hn Q k =>
  evPs_cons h t (by decide) (by decide) H n hp hn Q fun vs es H' ⟨d', r, e, e1, e2⟩ => k vs es H' (by rw [e, e1, e2])
theorem evD_tup (h : EvDs K ta σ p ds) (hl : ds.length ≤ 1000) : EvD K (tTup ta) σ p (.tuple ds) := evP_tup h (fun _ e => e ▸ hl) fun _ e => by rw [e]
theorem evD_lst (h : EvDs K ta σ p ds) (hl : ds.length ≤ 1000) : EvD K (tLst ta) σ p (.list ds) := evP_lst h (fun _ e => e ▸ hl) fun _ e => by rw [e]
theorem evD_d0 : EvD K tDNewK σ p (.dict []) := evP_d0 rfl
theorem evD_d1 {x : Str} (h : EvD K te σ p d) : EvD K (tDisp [(tC (.str x), te)]) σ p (.dict [(.str x, d)]) := evP_d1 h fun _ e => by rw [e]
end
end Er
set_option Elab.async false
set_option linter.all false
set_option maxRecDepth 100000
set_option maxHeartbeats 4000000
/-! Lists of errors made with one value; what isinstance says of each. -/
namespace Er
open PySem PySem.Spec PyProof.Rows L2
def Errs (K : PySem.W.Frag) (H : Hp) (es : List Addr) (xs : List Str) (v : V) : Prop := Paired (fun (e : Addr) (x : Str) => ∃ d, ErrAt H e (He.ga K x) d v) es xs
theorem Errs.same {K : PySem.W.Frag} {H H' : Hp} {v : V} (s : Same H H') : ∀ {es : List Addr} {xs : List Str}, Errs K H es xs v → Errs K H' es xs v
  | _, _, .nil => .nil
  | _, _, .cons ⟨d, h⟩ t => .cons ⟨d, h.same s⟩ (Errs.same s t)
theorem Errs.app {K : PySem.W.Frag} {H : Hp} {v : V} : ∀ {es es' : List Addr} {xs xs' : List Str}, Errs K H es xs v → Errs K H es' xs' v → Errs K H (es ++ es') (xs ++ xs') v
  | _, _, _, _, .nil, h => h
  | _, _, _, _, .cons a t, h => .cons a (Errs.app t h)
theorem Errs.len {K : PySem.W.Frag} {H : Hp} {v : V} : ∀ {es : List Addr} {xs : List Str}, Errs K H es xs v → es.length = xs.length
  | _, _, .nil => rfl
  | _, _, .cons _ t => congrArg (· + 1) (Errs.len t)
theorem Errs.at {K : PySem.W.Frag} {H : Hp} {v : V} : ∀ {es : List Addr} {xs : List Str} {i : Nat} {e : Addr}, Errs K H es xs v → es[i]? = some e → ∃ x d, xs[i]? = some x ∧ ErrAt H e (He.ga K x) d v
  | _, _, _, _, .nil, h => by simp at h
  | _, _, 0, e, .cons ⟨d, a⟩ t, h => by
    simp at h
    exact ⟨_, d, rfl, h ▸ a⟩
  | _, _, i + 1, e, .cons a t, h => by
    obtain ⟨x, d, h1, h2⟩ := Errs.at (i := i) t (by simpa using h)
    exact ⟨x, d, by simpa using h1, h2⟩
theorem exo_lst {e C : Addr} {d : Option Addr} {xs : List V} : exo e C d ≠ .lst xs := fun z => by
  have z' : HO.ext _ = HO.lst xs := z
  cases z'
theorem exd_lst {e : Addr} {fs : List (Str × V)} {xs : List V} : exd e fs ≠ .lst xs := fun z => by
  have z' : HO.ext _ = HO.lst xs := z
  cases z'
/-- a list written leaves the errors as they were -/
theorem ErrAt.put {H : Hp} {e C d l : Addr} {v : V} {xs : List V} {o : HO} (h : ErrAt H e C d v) (hl : H l = some (.lst xs)) : ErrAt (upd H l o) e C d v :=
  ⟨(upd_ne (ne_of h.1 hl exo_lst)).trans h.1, (upd_ne (ne_of h.2 hl exd_lst)).trans h.2⟩
theorem Errs.put {K : PySem.W.Frag} {H : Hp} {v : V} {l : Addr} {ys : List V} {o : HO} (hl : H l = some (.lst ys)) : ∀ {es : List Addr} {xs : List Str}, Errs K H es xs v → Errs K (upd H l o) es xs v
  | _, _, .nil => .nil
  | _, _, .cons ⟨d, h⟩ t => .cons ⟨d, h.put hl⟩ (Errs.put hl t)
theorem same_mut {H H' : Hp} {p : Addr} {o : HO} (e : Same H H') (h : H p = none) : Same H (upd H' p o) := fun b u hb => by
  rw [upd_ne (ne_of_none hb h)]
  exact e b u hb
/-- from C(v): a new error -/
theorem mkv_err {K : PySem.W.Frag} {C fI : Addr} {v : V} {H : Hp} {Q : VK} {E : XK} (T : ErC K C fI) (k : ∀ a d H', Same H H' → ErrAt H' a C d v → Q (.ref a) H') :
    ∀ a, H a = none → spInit K (.ref a :: ([v] ++ [])) (upd H a (exo a C none)) (fun w H2 => w = .non ∧ Q (.ref a) H2) E := fun a ha => by
  refine ⟨a, C, fI, v, rfl, T, upd_same, fun dx hdx ne => ⟨rfl, k a dx _ ?_ ⟨upd_same, (upd_ne ne).trans upd_same⟩⟩⟩
  have hd : H dx = none := by
    rw [upd_ne ne] at hdx
    exact hdx
  exact same_mut (same_mut (same_new ha) hd) ha
theorem i_mkv {K : PySem.W.Frag} {C fI : Addr} {v : V} {σ : L2.St} {H : Hp} {Q : VK} {i : Nat} (h : σ[i]? = some (some v)) (T : ErC K C fI) (k : ∀ a d H', Same H H' → ErrAt H' a C d v → Q (.ref a) H') : tMkV C (spInit K) [] (tCons (tVar i) tNil) σ H Q := by
  have z := mkv_err (E := fun _ _ _ => False) (H := H) (v := v) (Q := Q) T k
  exact ⟨v, h, (by decide : 1 ≤ 1000), z⟩
def mkAll (K : PySem.W.Frag) : List Str → TA
  | [] => tNil
  | x :: r => tCons (tMkV (He.ga K x) (spInit K) [] (tCons (tVar 0) tNil)) (mkAll K r)
theorem mk_ev {K : PySem.W.Frag} {fI : Addr} {σ : L2.St} {v : V} (hv : σ[0]? = some (some v)) : ∀ (xs : List Str), (∀ x ∈ xs, ErC K (He.ga K x) fI) → ∀ (H : Hp) (Q : List V → Hp → Prop),
    (∀ es H', Same H H' → Errs K H' es xs v → Q (es.map V.ref) H') → mkAll K xs σ H Q
  | [], _, H, Q, k => k [] H (Same.refl _) .nil
  | x :: r, hT, H, Q, k => by
    have z := mkv_err (E := fun _ _ _ => False) (H := H) (v := v) (Q := fun y H1 => mkAll K r σ H1 fun xs H2 => Q (y :: xs) H2) (hT x (List.mem_cons_self ..)) fun a d H1 s1 h1 =>
      mk_ev hv r (fun y hy => hT y (List.mem_cons_of_mem _ hy)) H1 _ fun es H2 s2 h2 => k (a :: es) H2 (s1.trans s2) (.cons ⟨d, h1.same s2⟩ h2)
    exact ⟨v, hv, (by decide : 1 ≤ 1000), z⟩
/-- found.extend([C(v), ..]) -/
theorem ext_made {K : PySem.W.Frag} {fI : Addr} {σ : L2.St} {v : V} {H0 H : Hp} {l : Addr} {es : List Addr} {ys : List Str} {Q : VK} (xs : List Str) (hT : ∀ x ∈ xs, ErC K (He.ga K x) fI) (h0 : σ[0]? = some (some v)) (h1 : σ[1]? = some (some (.ref l)))
    (hl : H l = some (.lst (es.map V.ref))) (he : Errs K H es ys v) (hn : ys.length + xs.length ≤ 1000) (h00 : H0 l = none) (s0 : Same H0 H)
    (k : ∀ es' H', H' l = some (.lst (es'.map V.ref)) → Errs K H' es' (ys ++ xs) v → Same H0 H' → Q .non H') : tBM K "list" rExtend (tVar 1) (tCons (tLst (mkAll K xs)) tNil) σ H Q := by
  refine ⟨.ref l, h1, .inl ⟨rfl, _, SqL.of hl⟩, ?_⟩
  refine i_cons (i_lst (mk_ev h0 xs hT H _ fun fs H1 s1 f1 => ⟨?_, fun q hq => ?_⟩))
  · rw [List.length_map, f1.len]
    exact Nat.le_of_lt (small1000 (by omega))
  · have s2 := s1.trans (same_new (o := .lst (fs.map V.ref)) hq)
    refine ⟨l, q, es.map V.ref, fs.map V.ref, rfl, rfl, s2 _ _ hl, upd_same, ?_, ?_⟩
    · rw [List.length_map, List.length_map, f1.len, he.len]
      exact Nat.le_of_lt (small1000 hn)
    · refine k (es ++ fs) _ ?_ (((he.same s2).put (s2 _ _ hl)).app ((f1.same (same_new hq)).put (s2 _ _ hl))) (same_mut (s0.trans s2) h00)
      rw [upd_same, List.map_append]
/-! ### isinstance, one class behind another -/
def isAll (K : PySem.W.Frag) : List Str → TA
  | [] => tNil
  | x :: r => tCons (tCB (rIsEr K) (tCons (tVar 0) (tCons (tC (.ref (He.ga K x))) tNil))) (isAll K r)
theorem is_ev {K : PySem.W.Frag} {C fI e d : Addr} {σ : L2.St} {v : V} {H : Hp} {g : Str → Bool} (T : ErC K C fI) (hE : ErrAt H e C d v) (hv : σ[0]? = some (some (.ref e))) : ∀ (xs : List Str), (∀ x ∈ xs, PySem.W.kitOne K (.ref C) (.ref (He.ga K x)) = some (g x)) →
    ∀ (Q : List V → Hp → Prop), Q (xs.map fun x => V.bl (g x)) H → isAll K xs σ H Q
  | [], _, Q, k => k
  | x :: r, hg, Q, k => ⟨.ref e, hv, e, C, fI, d, v, _, _, _, rfl, T, hE, fun w hw => hw, hg x (List.mem_cons_self ..), is_ev T hE hv r (fun y hy => hg y (List.mem_cons_of_mem _ hy)) _ k⟩
theorem ext_is {K : PySem.W.Frag} {C fI e d : Addr} {σ : L2.St} {v : V} {H0 H : Hp} {l : Addr} {zs : List V} {Q : VK} {g : Str → Bool} (xs : List Str) (T : ErC K C fI) (hE : ErrAt H e C d v) (h0 : σ[0]? = some (some (.ref e))) (h1 : σ[1]? = some (some (.ref l)))
    (hg : ∀ x ∈ xs, PySem.W.kitOne K (.ref C) (.ref (He.ga K x)) = some (g x)) (hl : H l = some (.lst zs)) (hn : zs.length + xs.length ≤ 1000) (h00 : H0 l = none) (s0 : Same H0 H)
    (k : ∀ H', H' l = some (.lst (zs ++ xs.map fun x => V.bl (g x))) → ErrAt H' e C d v → Same H0 H' → Q .non H') : tBM K "list" rExtend (tVar 1) (tCons (tLst (isAll K xs)) tNil) σ H Q := by
  refine ⟨.ref l, h1, .inl ⟨rfl, _, SqL.of hl⟩, ?_⟩
  refine i_cons (i_lst (is_ev T hE h0 xs hg _ ⟨?_, fun q hq => ?_⟩))
  · rw [List.length_map]
    exact Nat.le_of_lt (small1000 (by omega))
  · have s2 := same_new (o := .lst (xs.map fun x => V.bl (g x))) hq
    refine ⟨l, q, zs, xs.map fun x => V.bl (g x), rfl, rfl, s2 _ _ hl, upd_same, ?_, ?_⟩
    · rw [List.length_map]
      exact Nat.le_of_lt (small1000 hn)
    · exact k _ upd_same ((hE.same s2).put (s2 _ _ hl)) (same_mut (s0.trans s2) h00)
end Er
set_option Elab.async false
set_option linter.all false
set_option maxRecDepth 100000
set_option maxHeartbeats 4000000
/-! isinstance, == and in of data by their kind. -/
namespace Er
open PySem PySem.Spec PyProof.Rows L2
def kindOf : PyData → String
  | .none => "NoneType"
  | .bool _ => "bool"
  | .int _ => "int"
  | .str _ => "str"
  | .list _ => "list"
  | .tuple _ => "tuple"
  | .dict _ => "dict"
theorem ty_of {K : PySem.W.Frag} {H : Hp} {v : V} {d : PyData} (h : Sh K H v d) : TyX K H v (.type (kindOf d)) := by
  cases h with
  | non => exact .base .non
  | bl b => exact .base (.bl b)
  | int i => exact .base (.int i)
  | str x => exact .base (.str x)
  | lst hs ha =>
    rcases hs with (e | ⟨o, e⟩) | ⟨o, its, n, e, c, _⟩
    · exact .base (.lst e)
    · exact .base (.frz e)
    · exact .kList e c
  | tup hs ha =>
    rcases hs with (e | ⟨o, e⟩) | ⟨o, its, n, e, c, _⟩
    · exact .base (.tup e)
    · exact .fTuple e
    · exact .kTuple e c
  | dic e hk ha => exact .base (.dK e)
/-- isinstance of a datum against int, bool, str, tuple -/
def isK (d : PyData) (n : String) : Bool := (kitB (kindOf d) n).getD false
theorem isK_int (d : PyData) : kitB (kindOf d) "int" = some (match d with | .int _ => true | .bool _ => true | _ => false) := by
  cases d with
  | none => exact (by decide +kernel : kitB "NoneType" "int" = some false)
  | bool => exact (by decide +kernel : kitB "bool" "int" = some true)
  | int => exact (by decide +kernel : kitB "int" "int" = some true)
  | str => exact (by decide +kernel : kitB "str" "int" = some false)
  | list => exact (by decide +kernel : kitB "list" "int" = some false)
  | tuple => exact (by decide +kernel : kitB "tuple" "int" = some false)
  | dict => exact (by decide +kernel : kitB "dict" "int" = some false)
theorem isK_bool (d : PyData) : kitB (kindOf d) "bool" = some (match d with | .bool _ => true | _ => false) := by
  cases d with
  | none => exact (by decide +kernel : kitB "NoneType" "bool" = some false)
  | bool => exact (by decide +kernel : kitB "bool" "bool" = some true)
  | int => exact (by decide +kernel : kitB "int" "bool" = some false)
  | str => exact (by decide +kernel : kitB "str" "bool" = some false)
  | list => exact (by decide +kernel : kitB "list" "bool" = some false)
  | tuple => exact (by decide +kernel : kitB "tuple" "bool" = some false)
  | dict => exact (by decide +kernel : kitB "dict" "bool" = some false)
theorem isK_str (d : PyData) : kitB (kindOf d) "str" = some (match d with | .str _ => true | _ => false) := by
  cases d with
  | none => exact (by decide +kernel : kitB "NoneType" "str" = some false)
  | bool => exact (by decide +kernel : kitB "bool" "str" = some false)
  | int => exact (by decide +kernel : kitB "int" "str" = some false)
  | str => exact (by decide +kernel : kitB "str" "str" = some true)
  | list => exact (by decide +kernel : kitB "list" "str" = some false)
  | tuple => exact (by decide +kernel : kitB "tuple" "str" = some false)
  | dict => exact (by decide +kernel : kitB "dict" "str" = some false)
theorem isK_tuple (d : PyData) : kitB (kindOf d) "tuple" = some (match d with | .tuple _ => true | _ => false) := by
  cases d with
  | none => exact (by decide +kernel : kitB "NoneType" "tuple" = some false)
  | bool => exact (by decide +kernel : kitB "bool" "tuple" = some false)
  | int => exact (by decide +kernel : kitB "int" "tuple" = some false)
  | str => exact (by decide +kernel : kitB "str" "tuple" = some false)
  | list => exact (by decide +kernel : kitB "list" "tuple" = some false)
  | tuple => exact (by decide +kernel : kitB "tuple" "tuple" = some true)
  | dict => exact (by decide +kernel : kitB "dict" "tuple" = some false)
/-- isinstance(v, n): the answer b -/
theorem isi_data {K : PySem.W.Frag} {H : Hp} {v : V} {d : PyData} {n : String} {b : Bool} {Q : VK} (h : Sh K H v d) (hk : kitB (kindOf d) n = some b) (q : Q (.bl b) H) : rIsi K [v, .ty n] H Q :=
  ⟨v, .ty n, .type (kindOf d), .type n, b, rfl, .ty n, ty_of h, kit_ty hk, q⟩
theorem i_isi {K : PySem.W.Frag} {σ : L2.St} {H : Hp} {i : Nat} {v : V} {d : PyData} {n : String} {b : Bool} {Q : VK} (e : σ[i]? = some (some v)) (h : Sh K H v d) (hk : kitB (kindOf d) n = some b) (q : Q (.bl b) H) : tCB (rIsi K) (tCons (tVar i) (tCons (tC (.ty n)) tNil)) σ H Q :=
  ⟨v, e, isi_data h hk q⟩
section
variable {ta tb : TE} {σ : L2.St} {H : Hp} {Q : VK} {t u : TT} {Qb : Bool → Hp → Prop}
theorem i_andV (h : ta σ H fun x H1 => ∃ c, x = .bl c ∧ if c = true then tb σ H1 Q else Q (.bl false) H1) : tAndV ta tb σ H Q := h
theorem i_orV (h : ta σ H fun x H1 => ∃ c, x = .bl c ∧ if c = true then Q (.bl true) H1 else tb σ H1 Q) : tOrV ta tb σ H Q := h
theorem i_notV (h : ta σ H fun x H1 => ∃ c, x = .bl c ∧ Q (.bl (!c)) H1) : tNotV ta σ H Q := h
theorem i_ifx (h : t σ H fun c H1 => if c = true then ta σ H1 Q else tb σ H1 Q) : tIf t ta tb σ H Q := h
theorem i_or (h : t σ H fun c H1 => if c = true then Qb true H1 else u σ H1 Qb) : tOr t u σ H Qb := h
theorem i_and (h : t σ H fun c H1 => if c = true then u σ H1 Qb else Qb false H1) : tAnd t u σ H Qb := h
theorem i_not (h : t σ H fun c H1 => Qb (!c) H1) : tNot t σ H Qb := h
theorem i_B (h : ta σ H fun x H1 => ∃ c, x = .bl c ∧ Qb c H1) : tB ta σ H Qb := h
theorem i_test (h : ta σ H fun x H1 => ∃ c, x = .bl c ∧ Qb c H1) : tTest ta σ H Qb := h
end
/-! ### plain numbers -/
def isIntD : PyData → Bool
  | .int _ => true
  | _ => false
def isWithinD (d : PyData) (lo hi : Int) : Bool := match d with
  | .int i => decide (lo ≤ i) && decide (i ≤ hi)
  | _ => false
def spIsInt (K : PySem.W.Frag) : Sp := fun vs H Q _ => ∃ (v : V) (d : PyData), vs = [v] ∧ Sh K H v d ∧ Q (.bl (isIntD d)) H
def spWithin (K : PySem.W.Frag) : Sp := fun vs H Q _ => ∃ (v : V) (d : PyData) (lo hi : Int), vs = [v, .int lo, .int hi] ∧ Sh K H v d ∧ Q (.bl (isWithinD d lo hi)) H
/-! ### names -/
def signsL : Str := "abcdefghijklmnopqrstuvwxyz"
def signsD : Str := "0123456789"
def isNameS (x : Str) : Bool := decide (1 ≤ x.length) && (decide (x.length ≤ 8) && x.cps.toList.all fun c => decide (c ∈ signsL.cps.toList))
def isNameD : PyData → Bool
  | .str x => isNameS x
  | _ => false
def spIsName (K : PySem.W.Frag) : Sp := fun vs H Q _ => ∃ (v : V) (d : PyData), vs = [v] ∧ Sh K H v d ∧ (∀ x, d = .str x → x.length ≤ 100000) ∧ ∀ H', Same H H' → Q (.bl (isNameD d)) H'
end Er
set_option Elab.async false
set_option linter.all false
set_option maxRecDepth 100000
set_option maxHeartbeats 4000000
namespace K10
open PySem PySem.Spec PyProof.Rows L2 Er
structure Tx (K : PySem.W.Frag) (mg : Str → Option Value) : Prop where
  sys : SysIn K
  ers : ErrsT K errs
  erg : ∀ x, x ∈ ("PourError" : Str) :: errs → mg x = some (.ref (He.ga K x))
  fr : ∀ x, x ∈ frees → mg x = none
  gd : ∀ x, x ∈ gdefs → mg x = some (.ref (He.ga K x))
  int_LONGEST_NAME : ∃ t, mg "LONGEST_NAME" = some (.int 8 t)
  int_MOST_AMOUNT : ∃ t, mg "MOST_AMOUNT" = some (.int 99 t)
  int_MOST_NUMBER : ∃ t, mg "MOST_NUMBER" = some (.int 9999 t)
  int_MOST_VESSELS : ∃ t, mg "MOST_VESSELS" = some (.int 6 t)
  int_MOST_STEPS : ∃ t, mg "MOST_STEPS" = some (.int 14 t)
  int_MOST_SAMPLES : ∃ t, mg "MOST_SAMPLES" = some (.int 6 t)
  int_MOST_ENDS : ∃ t, mg "MOST_ENDS" = some (.int 9 t)
  str_LETTERS : ∃ t, mg "LETTERS" = some (.str "abcdefghijklmnopqrstuvwxyz" t)
  str_DIGITS : ∃ t, mg "DIGITS" = some (.str "0123456789" t)
  more : ∀ f ∈ faMore, f.ok K = true
theorem tx_of {K : PySem.W.Frag} {h : Heap} {mg : Str → Option Value} (X : K.In h) (G : h.Ns mainGlobals mg) (c : SaysX xb fa fn K) : Tx K mg := by
  obtain ⟨c1, c2⟩ := c.two
  have F := facts_all c1
  obtain ⟨x1, x2⟩ := Bool.and_eq_true_iff.mp (show (sysB K && errsB K errs) = true from c2)
  have A : ∀ f ∈ frees.map He.Fa.free, f.ok K = true := fun f hf => F f (List.mem_append_left _ (List.mem_append_left _ hf))
  have B : ∀ f ∈ gdefs.map He.Fa.glo, f.ok K = true := fun f hf => F f (List.mem_append_left _ (List.mem_append_right _ (List.mem_append_left _ hf)))
  have E : ∀ f ∈ (("PourError" : Str) :: errs).map He.Fa.glo, f.ok K = true := fun f hf => F f (List.mem_append_left _ (List.mem_append_right _ (List.mem_append_right _ hf)))
  have M : ∀ f ∈ faMore, f.ok K = true := fun f hf => F f (List.mem_append_right _ hf)
  exact ⟨sysB_ok x1, errsB_ok (by decide +kernel) x2, fun x hx => He.glo_ok X G (E _ (List.mem_map_of_mem hx)), fun x hx => He.free_ok X G (A _ (List.mem_map_of_mem hx)), fun x hx => He.glo_ok X G (B _ (List.mem_map_of_mem hx)),
    He.int_ok X G (M _ (List.mem_of_getElem? (i := 0) rfl)),
    He.int_ok X G (M _ (List.mem_of_getElem? (i := 1) rfl)),
    He.int_ok X G (M _ (List.mem_of_getElem? (i := 2) rfl)),
    He.int_ok X G (M _ (List.mem_of_getElem? (i := 3) rfl)),
    He.int_ok X G (M _ (List.mem_of_getElem? (i := 4) rfl)),
    He.int_ok X G (M _ (List.mem_of_getElem? (i := 5) rfl)),
    He.int_ok X G (M _ (List.mem_of_getElem? (i := 6) rfl)),
    He.str_ok X G (M _ (List.mem_of_getElem? (i := 7) rfl)),
    He.str_ok X G (M _ (List.mem_of_getElem? (i := 8) rfl)),
    M⟩
abbrev FnT (K : PySem.W.Frag) (x : Str) (st : Stmt) (fd : FuncData) : Prop := FunD K x x (defArgs st) (defBody st) (defScope st) [] [] (He.ga K x) fd
end K10
set_option Elab.async false
set_option linter.all false
set_option maxRecDepth 100000
set_option maxHeartbeats 4000000
namespace Er
open PySem PySem.Spec PyProof.Rows L2
/-- for i, x in enumerate(xs) -/
theorem for_enum {K : PySem.W.Frag} {a : Addr} {xs : List V} {g : TG} {tb : TS} {D : Ends} {σ : L2.St} {H : Hp} (Pv : Nat → L2.St → Hp → Prop) (h0 : Pv 0 σ H) (hl : ∀ i σ H, i ≤ xs.length → Pv i σ H → SqL K H a xs)
    (hs : ∀ i x σ H, xs[i]? = some x → Pv i σ H → ∀ T, H T = none → g (.ref T) σ (upd H T (.tup [.int (i : Nat), x])) fun σ2 H2 => tb { D with nx := Pv (i + 1), ct := Pv (i + 1), bk := D.nx } σ2 H2) (hd : ∀ σ H, Pv xs.length σ H → D.nx σ H) :
    ∃ W : Nat → Nat → L2.St → Hp → Prop, (∃ m, W 0 m σ H) ∧ ∀ i m σ H, W i m σ H →
      ((Ite K a).stop i H ∧ D.nx σ H) ∨ ((Ite K a).go i H ∧ ∃ N : L2.St → Hp → Prop, (∀ σ' H', N σ' H' → ∃ m', m' < m ∧ W (i + 1) m' σ' H') ∧ ∀ x H', (Ite K a).yld i H x H' → g x σ H' fun σ2 H2 => tb { D with nx := N, ct := N, bk := D.nx } σ2 H2) := by
  refine ⟨fun i m σ H => m + i = xs.length ∧ Pv i σ H, ⟨xs.length, rfl, h0⟩, fun i m σ H ⟨e, p⟩ => ?_⟩
  have q := hl i σ H (by omega) p
  cases m with
  | zero =>
    have ei : i = xs.length := by omega
    rw [ei] at p
    exact .inl ⟨⟨xs, q, by omega⟩, hd σ H p⟩
  | succ m =>
    have hlt : i < xs.length := by omega
    refine .inr ⟨⟨xs, xs[i], q, List.getElem?_eq_getElem hlt⟩, Pv (i + 1), fun σ' H' p' => ⟨m, Nat.lt_succ_self _, by omega, p'⟩, fun v H' ⟨T, x, ev, hT, eH, hx⟩ => ?_⟩
    rw [ev, eH]
    exact hs i x σ H (hx xs q) p T hT
/-- what a for asks, its source known -/
def ForR (J : It) (g : TG) (tb : TS) (D : Ends) (af : L2.St → Hp → Prop) (σ : L2.St) (H : Hp) : Prop := ∃ W : Nat → Nat → L2.St → Hp → Prop, (∃ m, W 0 m σ H) ∧ ∀ i m σ H, W i m σ H →
  (J.stop i H ∧ af σ H) ∨ (J.go i H ∧ ∃ N : L2.St → Hp → Prop, (∀ σ' H', N σ' H' → ∃ m', m' < m ∧ W (i + 1) m' σ' H') ∧ ∀ x H', J.yld i H x H' → g x σ H' fun σ2 H2 => tb { D with nx := N, ct := N, bk := af } σ2 H2)
section
variable {u : TS} {D : Ends} {af : L2.St → Hp → Prop} {σ : L2.St} {H : Hp} {wi : TI} {g : TG} {tb : TS} {te : TE} {i : Nat} {ta : TA}
/-- a for in the middle of a block; at its end -/
theorem i_for (h : wi σ H fun J H1 => ForR J g tb D (u D) σ H1) : tSeq (tFor wi g tb) u D σ H := h
theorem i_for1 (h : wi σ H fun J H1 => ForR J g tb D D.nx σ H1) : tFor wi g tb D σ H := h
/-- what a comprehension asks, its source known: Qd what follows with the new list at D made -/
def LcR (J : It) (g : TG) (tt : TT) (te : TE) (vs : List Nat) (σ : L2.St) (H1 : Hp) (Dl : Addr) (Qd : Hp → Prop) : Prop := ∃ W : Nat → Nat → Hp → Prop, (∃ m, W 0 m (upd H1 Dl (.lst []))) ∧ ∀ i m H, W i m H →
  (J.stop i H ∧ Qd H) ∨ (J.go i H ∧ ∃ Nx : Hp → Prop, (∀ H', Nx H' → ∃ m', m' < m ∧ W (i + 1) m' H') ∧ ∀ x H', J.yld i H x H' → g x (wipe σ vs) H' fun σ2 H2 => wipe σ2 vs = wipe σ vs ∧ tt σ2 H2 fun b H3 =>
    if b = true then te σ2 H3 fun y H4 => ∃ acc, H4 Dl = some (.lst acc) ∧ acc.length < sizeLine ∧ Nx (upd H4 Dl (.lst (acc ++ [y]))) else Nx H3)
theorem i_lc {tt : TT} {vs : List Nat} {Q : VK} (h : wi σ H fun J H1 => ∀ Dl, H1 Dl = none → LcR J g tt te vs σ H1 Dl (Q (.ref Dl))) : tLc wi g tt te vs σ H Q := h
theorem lr_range {lo : Int} {n : Nat} {tt : TT} {vs : List Nat} {Dl : Addr} {Qd : Hp → Prop} (Pv : Nat → Hp → Prop) (h0 : Pv 0 (upd H Dl (.lst [])))
    (hs : ∀ i H, i < n → Pv i H → g (.int (lo + i)) (wipe σ vs) H fun σ2 H2 => wipe σ2 vs = wipe σ vs ∧ tt σ2 H2 fun b H3 =>
      if b = true then te σ2 H3 fun y H4 => ∃ acc, H4 Dl = some (.lst acc) ∧ acc.length < sizeLine ∧ Pv (i + 1) (upd H4 Dl (.lst (acc ++ [y]))) else Pv (i + 1) H3) (hd : ∀ H, Pv n H → Qd H) : LcR (Itr lo n) g tt te vs σ H Dl Qd := lc_range Pv h0 hs hd
theorem lr_list {K : PySem.W.Frag} {a : Addr} {xs : List V} {tt : TT} {vs : List Nat} {Dl : Addr} {Qd : Hp → Prop} (Pv : Nat → Hp → Prop) (h0 : Pv 0 (upd H Dl (.lst []))) (hl : ∀ i H, i ≤ xs.length → Pv i H → SqL K H a xs)
    (hs : ∀ i x H, xs[i]? = some x → Pv i H → g x (wipe σ vs) H fun σ2 H2 => wipe σ2 vs = wipe σ vs ∧ tt σ2 H2 fun b H3 =>
      if b = true then te σ2 H3 fun y H4 => ∃ acc, H4 Dl = some (.lst acc) ∧ acc.length < sizeLine ∧ Pv (i + 1) (upd H4 Dl (.lst (acc ++ [y]))) else Pv (i + 1) H3) (hd : ∀ H, Pv xs.length H → Qd H) : LcR (Itl K a) g tt te vs σ H Dl Qd := lc_list Pv h0 hl hs hd
/-- over anything that walks -/
theorem fr_it {J : It} {n : Nat} {G : Hp → Prop} {Y : Nat → Hp → V → Hp → Prop} (w : Walk J n G Y) (Pv : Nat → L2.St → Hp → Prop) (h0 : Pv 0 σ H) (hG : ∀ i σ H, i ≤ n → Pv i σ H → G H)
    (hs : ∀ i x σ H H', i < n → Pv i σ H → Y i H x H' → g x σ H' fun σ2 H2 => tb { D with nx := Pv (i + 1), ct := Pv (i + 1), bk := af } σ2 H2) (hd : ∀ σ H, Pv n σ H → af σ H) : ForR J g tb D af σ H := for_it (D := { D with nx := af }) w Pv h0 hG hs hd
theorem lr_it {J : It} {n : Nat} {G : Hp → Prop} {Y : Nat → Hp → V → Hp → Prop} {tt : TT} {vs : List Nat} {Dl : Addr} {Qd : Hp → Prop} (w : Walk J n G Y) (Pv : Nat → Hp → Prop) (h0 : Pv 0 (upd H Dl (.lst []))) (hG : ∀ i H, i ≤ n → Pv i H → G H)
    (hs : ∀ i x H H', i < n → Pv i H → Y i H x H' → g x (wipe σ vs) H' fun σ2 H2 => wipe σ2 vs = wipe σ vs ∧ tt σ2 H2 fun b H3 =>
      if b = true then te σ2 H3 fun y H4 => ∃ acc, H4 Dl = some (.lst acc) ∧ acc.length < sizeLine ∧ Pv (i + 1) (upd H4 Dl (.lst (acc ++ [y]))) else Pv (i + 1) H3) (hd : ∀ H, Pv n H → Qd H) : LcR J g tt te vs σ H Dl Qd := lc_it w Pv h0 hG hs hd
theorem fr_range {lo : Int} {n : Nat} (Pv : Nat → L2.St → Hp → Prop) (h0 : Pv 0 σ H)
    (hs : ∀ i σ H, i < n → Pv i σ H → g (.int (lo + i)) σ H fun σ2 H2 => tb { D with nx := Pv (i + 1), ct := Pv (i + 1), bk := af } σ2 H2) (hd : ∀ σ H, Pv n σ H → af σ H) : ForR (Itr lo n) g tb D af σ H := for_range (D := { D with nx := af }) Pv h0 hs hd
theorem fr_list {K : PySem.W.Frag} {a : Addr} {xs : List V} (Pv : Nat → L2.St → Hp → Prop) (h0 : Pv 0 σ H) (hl : ∀ i σ H, i ≤ xs.length → Pv i σ H → SqL K H a xs)
    (hs : ∀ i x σ H, xs[i]? = some x → Pv i σ H → g x σ H fun σ2 H2 => tb { D with nx := Pv (i + 1), ct := Pv (i + 1), bk := af } σ2 H2) (hd : ∀ σ H, Pv xs.length σ H → af σ H) : ForR (Itl K a) g tb D af σ H := for_list (D := { D with nx := af }) Pv h0 hl hs hd
theorem fr_enum {K : PySem.W.Frag} {a : Addr} {xs : List V} (Pv : Nat → L2.St → Hp → Prop) (h0 : Pv 0 σ H) (hl : ∀ i σ H, i ≤ xs.length → Pv i σ H → SqL K H a xs)
    (hs : ∀ i x σ H, xs[i]? = some x → Pv i σ H → ∀ T, H T = none → g (.ref T) σ (upd H T (.tup [.int (i : Nat), x])) fun σ2 H2 => tb { D with nx := Pv (i + 1), ct := Pv (i + 1), bk := af } σ2 H2) (hd : ∀ σ H, Pv xs.length σ H → af σ H) :
    ForR (Ite K a) g tb D af σ H := for_enum (D := { D with nx := af }) Pv h0 hl hs hd
end
/-- [e for x in source]: what e is worth, turn by turn -/
theorem lr_map {J : It} {n : Nat} {G : Hp → Prop} {Y : Nat → Hp → V → Hp → Prop} {g : TG} {te : TE} {σ : L2.St} {H : Hp} {vs : List Nat} {Dl : Addr} {Qd : Hp → Prop} (w : Walk J n G Y) (vals : List V) (hn : vals.length = n) (h5 : n ≤ 100000) (nD : H Dl = none) (hG : ∀ H2, Same H H2 → G H2)
    (hs : ∀ (i : Nat) (x : V) (H2 H3 : Hp) (v : V), vals[i]? = some v → Same H H2 → Y i H2 x H3 → ∀ Q' : VK, (∀ H5, Same H2 H5 → Q' v H5) → g x (wipe σ vs) H3 fun σ2 H4 => wipe σ2 vs = wipe σ vs ∧ te σ2 H4 Q')
    (hg : ∀ (i : Nat) (x : V) (H3 : Hp) (A B : L2.St → Hp → Prop), (∀ σ2 H4, A σ2 H4 → B σ2 H4) → g x (wipe σ vs) H3 A → g x (wipe σ vs) H3 B)
    (hd : ∀ H2, H2 Dl = some (.lst vals) → Same H H2 → Qd H2) : LcR J g tYes te vs σ H Dl Qd := by
  refine lr_it w (fun i H2 => H2 Dl = some (.lst (vals.take i)) ∧ Same H H2) ⟨upd_same, same_new nD⟩ (fun i H2 _ h => hG H2 h.2) (fun i x H2 H3 hi h hy => ?_) (fun H2 h => ?_)
  · obtain ⟨e2, s2⟩ := h
    have hi' : i < vals.length := by omega
    have hv : vals[i]? = some vals[i] := List.getElem?_eq_getElem hi'
    refine hg i x H3 _ _ (fun σ2 H4 h => ⟨h.1, h.2⟩) (hs i x H2 H3 _ hv s2 hy (fun y H4 => ∃ acc, H4 Dl = some (.lst acc) ∧ acc.length < sizeLine ∧ (upd H4 Dl (.lst (acc ++ [y])) Dl = some (.lst (vals.take (i + 1))) ∧ Same H (upd H4 Dl (.lst (acc ++ [y]))))) fun H5 s5 => ?_)
    refine ⟨_, s5 _ _ e2, ?_, ?_, same_mut (s2.trans s5) nD⟩
    · rw [List.length_take]
      exact Nat.lt_of_le_of_lt (Nat.min_le_right _ _) (by rw [sizeLine_eq]; omega)
    · rw [upd_same, List.take_add_one, hv]
      rfl
  · rw [← hn, List.take_length] at h
    exact hd H2 h.1 h.2
theorem gName_mono {i : Nat} {x : V} {σ : L2.St} {H : Hp} (A B : L2.St → Hp → Prop) (h : ∀ σ2 H4, A σ2 H4 → B σ2 H4) (a : gName i x σ H A) : gName i x σ H B := h _ _ a
end Er
set_option Elab.async false
set_option linter.all false
set_option maxRecDepth 100000
set_option maxHeartbeats 4000000
namespace K10
open PySem PySem.Spec PyProof.Rows L2 Er
section
variable {P : Program} {w : World} {K : PySem.W.Frag} {mg : Str → Option Value} {base : Heap} {f : Addr} {fd : FuncData}
theorem sc_is_integer : FnScope ["value"] ["value"] (defScope s_is_integer) := ⟨rfl, rfl, rfl, by decide +kernel, rfl, by decide +kernel, by decide +kernel⟩
theorem ok_is_integer (T : Tx K mg) (F : FunD K "is_integer" "is_integer" (defArgs s_is_integer) (defBody s_is_integer) (defScope s_is_integer) [] [] f fd) : FnOk P w K mg base CX0 1 f fd ["value"] (spIsInt K) := by
  refine F.ok sc_is_integer (fun vs H Q E h => ?_) (fun cdv A outer s H vs Q E hr h => ?_)
  · obtain ⟨v, d, rfl, _⟩ := h
    rfl
  · obtain ⟨v, d, rfl, hd, q⟩ := h
    refine ⟨_, (pss_one (ps_ret (pe_and (pe_callB call_isi (by rfl) (T.fr "isinstance" (mem_at 7 rfl)) (by decide +kernel) (pa_cons (pv 0) (pa_cons (pe_bltn (v := .ty "int") (by rfl) (T.fr "int" (mem_at 6 rfl)) (by decide +kernel) rfl) pa_nil))) (pe_one (pe_not (pe_callB call_isi (by rfl) (T.fr "isinstance" (mem_at 7 rfl)) (by decide +kernel) (pa_cons (pv 0) (pa_cons (pe_bltn (v := .ty "bool") (by rfl) (T.fr "bool" (mem_at 3 rfl)) (by decide +kernel) rfl) pa_nil)))))))), ?_⟩
    refine i_ret (i_andV (i_isi rfl hd (isK_int d) ⟨_, rfl, ?_⟩))
    cases d with
    | int i => exact i_notV (i_isi rfl hd (isK_bool _) ⟨_, rfl, q⟩)
    | bool b => exact i_notV (i_isi rfl hd (isK_bool _) ⟨_, rfl, q⟩)
    | _ => exact q
theorem sc_is_within : FnScope ["value", "low", "high"] ["value", "low", "high"] (defScope s_is_within) := ⟨rfl, rfl, rfl, by decide +kernel, rfl, by decide +kernel, by decide +kernel⟩
theorem ok_is_within (T : Tx K mg) (F : FunD K "is_within" "is_within" (defArgs s_is_within) (defBody s_is_within) (defScope s_is_within) [] [] f fd) {fdI : FuncData} (GInt : FnOk P w K mg base CX0 1 (He.ga K "is_integer") fdI ["value"] (spIsInt K)) (GIntF : FnT K "is_integer" s_is_integer fdI) (GIntB : Binds K fdI ["value"] []) :
    FnOk P w K mg base CX0 2 f fd ["value", "low", "high"] (spWithin K) := by
  refine F.ok sc_is_within (fun vs H Q E h => ?_) (fun cdv A outer s H vs Q E hr h => ?_)
  · obtain ⟨v, d, lo, hi, rfl, _⟩ := h
    rfl
  · obtain ⟨v, d, lo, hi, rfl, hd, q⟩ := h
    have hr_GInt := hr
    refine ⟨_, (pss_one (ps_ret (pe_and (pe_call GInt hr_GInt (by rfl) (T.gd "is_integer" (mem_at 1 rfl)) GIntF.kp GIntB .nil pass0 (pa_cons (pv 0) pa_nil)) (pe_one (pe_chain op_le op_le (pv 1) (pv 0) (pv 2)))))), ?_⟩
    refine i_ret ⟨v, rfl, v, d, rfl, hd, ⟨_, rfl, ?_⟩⟩
    cases d with
    | int i =>
      cases hd
      refine ⟨_, rfl, _, rfl, lo, i, rfl, rfl, _, rfl, ite2 (fun e => ?_) (fun e => ?_)⟩
      · refine ⟨_, rfl, i, hi, rfl, rfl, ?_⟩
        have e2 : isWithinD (.int i) lo hi = decide (i ≤ hi) := by
          show (decide (lo ≤ i) && decide (i ≤ hi)) = _
          rw [e, Bool.true_and]
        show Q (.bl (decide (i ≤ hi))) H
        rw [← e2]
        exact q
      · have e2 : isWithinD (.int i) lo hi = false := by
          show (decide (lo ≤ i) && decide (i ≤ hi)) = _
          rw [Bool.eq_false_iff.mpr e, Bool.false_and]
        show Q (.bl false) H
        rw [← e2]
        exact q
    | _ => exact q
theorem sc_is_name : FnScope ["value", "sign"] ["value"] (defScope s_is_name) := ⟨rfl, rfl, rfl, by decide +kernel, rfl, by decide +kernel, by decide +kernel⟩
theorem ok_is_name (T : Tx K mg) (F : FunD K "is_name" "is_name" (defArgs s_is_name) (defBody s_is_name) (defScope s_is_name) [] [] f fd) : FnOk P w K mg base CX0 1 f fd ["value"] (spIsName K) := by
  refine F.ok sc_is_name (fun vs H Q E h => ?_) (fun cdv A outer s H vs Q E hr h => ?_)
  · obtain ⟨v, d, rfl, _⟩ := h
    rfl
  · obtain ⟨v, d, rfl, hd, hz, q⟩ := h
    refine ⟨_, PSs.nox (pss_cons (ps_if (PW.pt (pw_or (pt_not (pt_val (pe_callB call_isi (by rfl) (T.fr "isinstance" (mem_at 7 rfl)) (by decide +kernel) (pa_cons (pv 0) (pa_cons (pe_bltn (v := .ty "str") (by rfl) (T.fr "str" (mem_at 15 rfl)) (by decide +kernel) rfl) pa_nil))))) (pw_or1 (pt_not (pt_chain op_le op_le pe_int (pe_callB call_len_str (by rfl) (T.fr "len" (mem_at 8 rfl)) PySem.boot_len (pa_cons (pv 0) pa_nil)) (pe_glob (v := .int 8) (by rfl) (Exists.choose_spec T.int_LONGEST_NAME) ⟨_, rfl⟩))))))
        (pss_one (ps_ret pe_bl))
        pss_nil)
      (pss_one (ps_ret (pe_callB (cr_all rfl) (by rfl) (T.fr "all" (mem_at 1 rfl)) (by decide +kernel) (pa_cons (pe_lc (own := [("sign", 1)]) (g := gName 1) (tt := tYes) rfl sc_is_name.nd (pi_str (pv 0)) (blkOk_by (N := ["value", "sign"]) (sc := defScope s_is_name) (by decide +kernel)) (fun _ _ _ _ _ => pg_name (i := 1) sc_is_name.nd rfl (Or.inl rfl)) (fun _ _ _ _ _ => pts_nil) (fun _ _ _ _ _ => (pe_cmpR op_in_sign (pv 1) (pe_glob (v := .str "abcdefghijklmnopqrstuvwxyz") (by rfl) (Exists.choose_spec T.str_LETTERS) ⟨_, rfl⟩) (by rfl)))) pa_nil))))), ?_⟩
    refine i_if0 (i_or (i_not (i_B (i_isi rfl hd (isK_str d) ⟨_, rfl, ?_⟩))))
    cases d with
    | str x =>
      cases hd
      have hx := hz x rfl
      have hs : x.length ≤ sizeLine := Nat.le_trans hx (by decide)
      refine iteF (i_not (i_test ⟨_, rfl, x, rfl, hs, 1, _, rfl, rfl, _, rfl, ite2 (fun e => ?_) (fun e => ?_)⟩))
      · refine ⟨_, 8, rfl, rfl, _, rfl, ite2 (fun e2 => ?_) (fun e2 => ?_)⟩
        · have e3 : ¬ ((x.length : Int) ≤ 8) := fun z => by
            rw [decide_eq_true z] at e2
            cases e2
          have e4 : isNameD (.str x) = false := by
            show (decide (1 ≤ x.length) && (decide (x.length ≤ 8) && _)) = false
            rw [decide_eq_false (show ¬ x.length ≤ 8 by omega), Bool.false_and, Bool.and_false]
          rw [← e4]
          exact q H (Same.refl _)
        · have e3 : (x.length : Int) ≤ 8 := Decidable.of_not_not fun z => e2 (by rw [decide_eq_false z]; rfl)
          have e5 : (1 : Int) ≤ x.length := of_decide_eq_true e
          have vl : (x.cps.toList.map fun c => V.bl (decide (c ∈ signsL.cps.toList))).length = x.cps.size := by rw [List.length_map, Array.length_toList]
          refine i_ret (i_cb (i_cons (i_lc ⟨.str x, rfl, x, rfl, fun Dl nD => lr_map walk_str (x.cps.toList.map fun c => V.bl (decide (c ∈ signsL.cps.toList))) vl hx nD (fun _ _ => trivial) (fun i y H2 H3 v hv s2 hy Q' k => ?_) (fun _ _ _ => gName_mono) (fun H2 e2 s2 => ?_)⟩)))
          · obtain ⟨rfl, c, hc, rfl⟩ := hy
            have ev : v = V.bl (decide (c ∈ signsL.cps.toList)) := by
              rw [List.getElem?_map, Array.getElem?_toList, hc] at hv
              exact (Option.some.inj hv).symm
            subst ev
            exact ⟨rfl, _, rfl, c, signsL, rfl, rfl, k _ (Same.refl _)⟩
          · refine i_nil ⟨Dl, x.cps.toList.map fun c => decide (c ∈ signsL.cps.toList), rfl, SqL.of (by rw [e2, List.map_map]; rfl), ?_⟩
            have e4 : isNameD (.str x) = (x.cps.toList.map fun c => decide (c ∈ signsL.cps.toList)).all id := by
              show (decide (1 ≤ x.length) && (decide (x.length ≤ 8) && _)) = _
              rw [decide_eq_true (show 1 ≤ x.length by omega), decide_eq_true (show x.length ≤ 8 by omega), Bool.true_and, Bool.true_and, List.all_map]
              rfl
            rw [← e4]
            exact q _ s2
      · have e4 : isNameD (.str x) = false := by
          have e3 : ¬ ((1 : Int) ≤ x.length) := fun z => e (decide_eq_true z)
          show (decide (1 ≤ x.length) && (decide (x.length ≤ 8) && _)) = false
          rw [decide_eq_false (show ¬ 1 ≤ x.length by omega), Bool.false_and]
        refine ⟨_, rfl, ?_⟩
        show Q (.bl false) H
        rw [← e4]
        exact q H (Same.refl _)
    | _ => exact q H (Same.refl _)
end
end K10
set_option Elab.async false
set_option linter.all false
set_option maxRecDepth 100000
set_option maxHeartbeats 4000000
/-! Integers as words tell them. -/
namespace Er
open PySem PySem.Spec PyProof.Rows L2
theorem i_setv {te : TE} {u : TS} {D : Ends} {σ : L2.St} {H : Hp} {i : Nat} {v : V} (h : ∀ Q : VK, Q v H → te σ H Q) (k : u D (σ.set i (some v)) H) : tSeq (tAsg te (gName i)) u D σ H := h _ k
def digB (c : Nat) : Bool := decide (c ∈ signsD.cps.toList)
theorem digB_iff {c : Nat} : digB c = true ↔ 48 ≤ c ∧ c ≤ 57 := by
  have e : signsD.cps.toList = [48, 49, 50, 51, 52, 53, 54, 55, 56, 57] := by decide +kernel
  unfold digB
  rw [e, decide_eq_true_eq]
  simp only [List.mem_cons, List.not_mem_nil, or_false]
  omega
def negB (w : Str) : Bool := Txt.startswith w "-"
def digsOf (w : Str) : Str := if negB w = true then cutS w (some 1) none else w
def digsOk (w : Str) : Bool := !(decide (digsOf w = ("" : Str))) && (digsOf w).cps.toList.all digB
def intOfS (w : Str) : Option Int := if digsOk w = true then (match intText? w with
  | some n => if Str.ofString (toString n) = w then some n else none
  | none => none) else none
def optV : Option Int → V
  | some n => .int n
  | none => .non
def optD : Option Int → PyData
  | some n => .int n
  | none => .none
def spIntOf : Sp := fun vs H Q _ => ∃ w : Str, vs = [.str w] ∧ w.length ≤ 500 ∧ ∀ H', Same H H' → Q (optV (intOfS w)) H'
theorem foldl_lt : ∀ (cs : List Nat) (a : Nat), NumText.AllDigits cs → cs.foldl (fun acc c => acc * 10 + (c - 48)) a < (a + 1) * 10 ^ cs.length
  | [], a, _ => by simp
  | c :: cs, a, h => by
    have hc := h c (List.mem_cons_self ..)
    have ih := foldl_lt cs (a * 10 + (c - 48)) (fun d hd => h d (List.mem_cons_of_mem _ hd))
    have e : (a * 10 + (c - 48) + 1) ≤ (a + 1) * 10 := by omega
    show cs.foldl _ (a * 10 + (c - 48)) < (a + 1) * 10 ^ (cs.length + 1)
    refine Nat.lt_of_lt_of_le ih ?_
    rw [Nat.pow_succ, Nat.mul_comm (10 ^ cs.length) 10, ← Nat.mul_assoc]
    exact Nat.mul_le_mul_right _ e
theorem val_lt {cs : List Nat} (h : NumText.AllDigits cs) : NumText.digitsVal cs < 10 ^ cs.length := by
  have z := foldl_lt cs 0 h
  simpa [NumText.digitsVal] using z
theorem cut1 (w : Str) : (cutS w (some 1) none).cps.toList = w.cps.toList.drop 1 := by
  show List.take (HT.sIx w.length w.length none - HT.sIx w.length 0 (some 1)) (List.drop (HT.sIx w.length 0 (some 1)) w.cps.toList) = _
  have e1 : HT.sIx w.length w.length none = w.length := rfl
  have e3 : w.cps.toList.length = w.length := Array.length_toList
  by_cases h : w.length = 0
  · have e4 : w.cps.toList = [] := List.eq_nil_of_length_eq_zero (e3.trans h)
    rw [e4]
    simp
  · have e2 : HT.sIx w.length 0 (some 1) = 1 := by
      simp [HT.sIx]
      omega
    rw [e1, e2, List.take_of_length_le]
    rw [List.length_drop, e3]
    exact Nat.le_refl _
theorem negB_iff {w : Str} : negB w = true ↔ ∃ cs, w.cps.toList = 45 :: cs := by
  have e3 : w.cps.toList.length = w.length := Array.length_toList
  show (decide (0 + ("-" : Str).length ≤ w.length) && Builtin.Str.subAt w "-" 0) = true ↔ _
  rw [StrLaws.subAt_eq, show ("-" : Str).length = 1 by decide +kernel, show ("-" : Str).cps.toList = [45] by decide +kernel, List.drop_zero, ← e3]
  cases w.cps.toList with
  | nil => simp
  | cons c l => simp
theorem allDig {l : List Nat} (h : l.all digB = true) : NumText.AllDigits l := fun c hc => digB_iff.mp (List.all_eq_true.mp h c hc)
theorem ne_empty {x : Str} (h : x ≠ ("" : Str)) : x.cps.toList ≠ [] := fun e => h (by
  have z : x.cps.toList = ("" : Str).cps.toList := e.trans (by decide +kernel)
  exact TL.ext_tl z)
theorem digs_len (w : Str) : (digsOf w).length ≤ w.length := by
  unfold digsOf
  split
  · exact cutS_length _ _ _
  · exact Nat.le_refl _
theorem pow500 : 2 * 10 ^ 500 ≤ 2 ^ 1919 := by decide +kernel
theorem log_ok {n : Int} (h : n.natAbs < 10 ^ 500) : n.natAbs.log2 < 1920 := by
  by_cases z : n.natAbs = 0
  · rw [z]
    decide +kernel
  · rw [Nat.log2_lt z]
    have := pow500
    have e : (2 : Nat) ^ 1919 ≤ 2 ^ 1920 := by decide +kernel
    omega
theorem int_read {w : Str} (h : digsOk w = true) (hl : w.length ≤ 500) : ∃ n, intText? w = some n ∧ n.natAbs < 10 ^ 500 := by
  obtain ⟨h1, h2⟩ := Bool.and_eq_true_iff.mp h
  have hne : digsOf w ≠ ("" : Str) := fun e => by
    rw [decide_eq_true e] at h1
    cases h1
  have hD := allDig h2
  have hN := ne_empty hne
  have e3 : (digsOf w).cps.toList.length = (digsOf w).length := Array.length_toList
  have hL := digs_len w
  have hv : NumText.digitsVal (digsOf w).cps.toList < 10 ^ 500 := Nat.lt_of_lt_of_le (val_lt hD) (Nat.pow_le_pow_right (by decide) (by omega))
  by_cases g : negB w = true
  · obtain ⟨cs, e⟩ := negB_iff.mp g
    have ed : (digsOf w).cps.toList = cs := by
      unfold digsOf
      rw [if_pos g, cut1, e]
      rfl
    rw [ed] at hD hN hv
    exact ⟨_, PySem.intText_neg e hD hN (by omega), by rw [Int.natAbs_neg, Int.natAbs_natCast]; exact hv⟩
  · have ed : digsOf w = w := if_neg g
    rw [ed] at hD hN hv
    exact ⟨_, PySem.intText_digits hD hN (by omega), by rw [Int.natAbs_natCast]; exact hv⟩
end Er
set_option Elab.async false
set_option linter.all false
set_option maxRecDepth 100000
set_option maxHeartbeats 4000000
namespace K10
open PySem PySem.Spec PyProof.Rows L2 Er
section
variable {P : Program} {w : World} {K : PySem.W.Frag} {mg : Str → Option Value} {base : Heap} {f : Addr} {fd : FuncData}
theorem sc_integer_of : FnScope ["word", "digits", "number", "sign"] ["word"] (defScope s_integer_of) := ⟨rfl, rfl, rfl, by decide +kernel, rfl, by decide +kernel, by decide +kernel⟩
theorem ok_integer_of (T : Tx K mg) (F : FunD K "integer_of" "integer_of" (defArgs s_integer_of) (defBody s_integer_of) (defScope s_integer_of) [] [] f fd) : FnOk P w K mg base CX0 1 f fd ["word"] spIntOf := by
  refine F.ok sc_integer_of (fun vs H Q E h => ?_) (fun cdv A outer s H vs Q E hr h => ?_)
  · obtain ⟨x, rfl, _⟩ := h
    rfl
  · obtain ⟨x, rfl, hx, q⟩ := h
    refine ⟨_, PSs.nox (pss_cons (ps_set (i := 1) sc_integer_of.nd rfl (Or.inl rfl) (pe_ifExp (pt_val (pe_m1 PySem.F.slot_str_startswith PySem.F.type_str_startswith mt_startswith (pv 0) pe_str)) (pe_slice sl_str (pv 0) (po_some pe_int) po_none) (pv 0)))
      (pss_cons (ps_if (PW.pt (pw_or (pt_cmpR op_eq (pv 1) pe_str (nomark _)) (pw_or1 (pt_not (pt_val (pe_callB (cr_all rfl) (by rfl) (T.fr "all" (mem_at 1 rfl)) (by decide +kernel) (pa_cons (pe_lc (own := [("sign", 3)]) (g := gName 3) (tt := tYes) rfl sc_integer_of.nd (pi_str (pv 1)) (blkOk_by (N := ["word", "digits", "number", "sign"]) (sc := defScope s_integer_of) (by decide +kernel)) (fun _ _ _ _ _ => pg_name (i := 3) sc_integer_of.nd rfl (Or.inl rfl)) (fun _ _ _ _ _ => pts_nil) (fun _ _ _ _ _ => (pe_cmpR op_in_sign (pv 3) (pe_glob (v := .str "0123456789") (by rfl) (Exists.choose_spec T.str_DIGITS) ⟨_, rfl⟩) (by rfl)))) pa_nil)))))))
        (pss_one (ps_ret pe_non))
        pss_nil)
      (pss_cons (ps_set (i := 2) sc_integer_of.nd rfl (Or.inl rfl) (pe_callTy call_int_str (by rfl) (T.fr "int" (mem_at 6 rfl)) (by decide +kernel) (pa_cons (pv 0) pa_nil)))
      (pss_one (ps_ret (pe_ifExp (pt_cmpR op_eq (pe_callTy call_str_int (by rfl) (T.fr "str" (mem_at 15 rfl)) (by decide +kernel) (pa_cons (pv 2) pa_nil)) (pv 0) (nomark _)) (pv 2) pe_non)))))), ?_⟩
    have hs : x.length ≤ sizeLine := Nat.le_trans hx (by decide)
    have hdl := digs_len x
    have hds : (digsOf x).length ≤ sizeLine := Nat.le_trans hdl hs
    refine i_setv (v := .str (digsOf x)) (fun Q' q' => ?_) ?_
    · refine i_ifx (i_B ⟨_, rfl, ⟨x, rfl⟩, x, ("-" : Str), rfl, rfl, ⟨_, rfl, ite2 (fun e => ⟨_, rfl, 1, rfl, x, rfl, hs, ?_⟩) (fun e => ⟨_, rfl, ?_⟩)⟩⟩)
      · have ed : digsOf x = cutS x (some 1) none := if_pos e
        rw [← ed]
        exact q'
      · have ed : digsOf x = x := if_neg e
        rw [ed] at q'
        exact q'
    · have hx9 : (digsOf x).length ≤ 100000 := Nat.le_trans hdl (Nat.le_trans hx (by decide))
      have vl : ((digsOf x).cps.toList.map fun c => V.bl (digB c)).length = (digsOf x).cps.size := by rw [List.length_map, Array.length_toList]
      refine i_if0 (i_or (i_test ⟨_, rfl, rfl, ⟨_, rfl, ite2 (fun e2 => ?_) (fun e2 => ?_)⟩⟩))
      · have e3 : digsOf x = ("" : Str) := V.str.inj (of_decide_eq_true e2)
        have e4 : digsOk x = false := by
          unfold digsOk
          rw [e3]
          rfl
        have e5 : intOfS x = none := if_neg (by rw [e4]; decide)
        have q5 := q H (Same.refl _)
        rw [e5] at q5
        exact q5
      · have e3 : digsOf x ≠ ("" : Str) := fun z => e2 (decide_eq_true (congrArg V.str z))
        have e4 : digsOk x = (digsOf x).cps.toList.all digB := by
          unfold digsOk
          rw [decide_eq_false e3]
          rfl
        refine i_not (i_B (i_cb (i_cons (i_lc ⟨.str (digsOf x), rfl, digsOf x, rfl, fun Dl nD => lr_map walk_str ((digsOf x).cps.toList.map fun c => V.bl (digB c)) vl hx9 nD (fun _ _ => trivial) (fun i y H2 H3 v hv s2 hy Q' k => ?_) (fun _ _ _ => gName_mono) (fun H2 e6 s2 => ?_)⟩))))
        · obtain ⟨rfl, c, hc, rfl⟩ := hy
          have ev : v = V.bl (digB c) := by
            rw [List.getElem?_map, Array.getElem?_toList, hc] at hv
            exact (Option.some.inj hv).symm
          subst ev
          exact ⟨rfl, _, rfl, c, signsD, rfl, rfl, k _ (Same.refl _)⟩
        · refine i_nil ⟨Dl, (digsOf x).cps.toList.map digB, rfl, SqL.of (by rw [e6, List.map_map]; rfl), ?_⟩
          have e7 : ((digsOf x).cps.toList.map digB).all id = digsOk x := by
            rw [e4, List.all_map]
            rfl
          rw [e7]
          refine ⟨_, rfl, ?_⟩
          cases g : digsOk x with
          | false =>
            have e5 : intOfS x = none := if_neg (by rw [g]; decide)
            have q5 := q H2 s2
            rw [e5] at q5
            exact q5
          | true =>
            obtain ⟨n, hn, hn2⟩ := int_read g hx
            refine i_set (i_cb (i_cons (i_var rfl (i_nil ⟨x, n, rfl, hn, by omega, ?_⟩))))
            have e8 : intOfS x = if Str.ofString (toString n) = x then some n else none := by
              unfold intOfS
              rw [if_pos g, hn]
            refine i_ret (i_ifx (i_test (i_op (i_cb (i_cons (i_var rfl (i_nil ⟨n, rfl, log_ok hn2, ⟨_, rfl, rfl, ⟨_, rfl, ite2 (fun e9 => ?_) (fun e9 => ?_)⟩⟩⟩)))))))
            · have e10 : Str.ofString (toString n) = x := V.str.inj (of_decide_eq_true e9)
              have q5 := q H2 s2
              rw [e8, if_pos e10] at q5
              exact ⟨_, rfl, q5⟩
            · have e10 : ¬ Str.ofString (toString n) = x := fun z => e9 (decide_eq_true (congrArg V.str z))
              have q5 := q H2 s2
              rw [e8, if_neg e10] at q5
              exact q5
end
end K10
set_option Elab.async false
set_option linter.all false
set_option maxRecDepth 100000
set_option maxHeartbeats 4000000
/-! Words in tuples: steps, spots, samples as a text tells them. -/
namespace Er
open PySem PySem.Spec PyProof.Rows L2
def sV (ws : List Str) : List V := ws.map V.str
def wv (ws : List Str) (o : Option Int) : List V := sV ws ++ [optV o]
def inO (o : Option Int) (lo hi : Int) : Bool := isWithinD (optD o) lo hi
def stepB (vn : List Str) (o : Option Int) : List Str → Bool
  | [k, a] => ([a].all fun x => decide (x ∈ vn)) && (inO o 1 99 && decide (k ∈ (["fill", "dye", "draw"] : List Str)))
  | [k, a, b] => ([a, b].all fun x => decide (x ∈ vn)) && (inO o 1 99 && (decide (k = ("pour" : Str)) && decide (a ≠ b)))
  | _ => false
theorem bn {b : Bool} (h : (!b) = true) : b = false := by cases b <;> simp_all
theorem bt {b : Bool} (h : ¬ (!b) = true) : b = true := by cases b <;> simp_all
theorem eqV_str (a b : Str) : eqV (.str a) (.str b) = decide (a = b) := by
  by_cases h : a = b
  · subst h
    rw [decide_eq_true rfl]
    show (a == a) = true
    exact beq_self_eq_true _
  · rw [decide_eq_false h]
    show (a == b) = false
    exact beq_eq_false_iff_ne.mpr h
theorem inV_sV (x : Str) (ws : List Str) : inV (.str x) (sV ws) = decide (x ∈ ws) := by
  unfold inV sV
  rw [List.any_map]
  have e : (fun y => eqV y (V.str x)) ∘ V.str = fun y => decide (y = x) := funext fun y => eqV_str y x
  rw [e]
  induction ws with
  | nil => rfl
  | cons w ws ih =>
    rw [List.any_cons, ih]
    by_cases h : w = x
    · subst h
      simp
    · rw [decide_eq_false h, Bool.false_or]
      have h2 : ¬ x = w := fun z => h z.symm
      simp [h2]
theorem flat_sV (ws : List Str) : (sV ws).all flatV = true := by
  induction ws with
  | nil => rfl
  | cons w ws ih => exact ih
theorem flat_opt (o : Option Int) : flatV (optV o) = true := by cases o <;> rfl
section
variable {K : PySem.W.Frag} {H : Hp} {x : V} {p : Addr} {xs : List V} {b : Bool} {Q : VK}
theorem r_in (h : SqL K H p xs ∨ SqT K H p xs) (f1 : flatV x = true) (f2 : xs.all flatV = true) (e : inV x xs = b) (q : Q (.bl b) H) : rIn K false x (.ref p) H Q := ⟨p, xs, rfl, h, f1, f2, e ▸ q⟩
theorem r_nin (h : SqL K H p xs ∨ SqT K H p xs) (f1 : flatV x = true) (f2 : xs.all flatV = true) (e : inV x xs = b) (q : Q (.bl (!b)) H) : rIn K true x (.ref p) H Q := ⟨p, xs, rfl, h, f1, f2, e ▸ q⟩
theorem r_ixT {i : Int} {v : V} (h : SqT K H p xs) (e : atI xs i = some v) (q : Q v H) : rIxT K (.ref p) (.int i) H Q := ⟨p, xs, i, v, rfl, rfl, h, e, q⟩
theorem r_eqS {a b : Str} (q : Q (.bl (decide (a = b))) H) : rEq (.str a) (.str b) H Q := ⟨rfl, by
  have e : decide (V.str a = V.str b) = decide (a = b) := by
    by_cases h : a = b
    · rw [decide_eq_true h, decide_eq_true (congrArg V.str h)]
    · rw [decide_eq_false h, decide_eq_false fun z => h (V.str.inj z)]
  rw [e]
  exact q⟩
theorem r_eqI {a b : Int} (q : Q (.bl (decide (a = b))) H) : rEq (.int a) (.int b) H Q := ⟨rfl, by
  have e : decide (V.int a = V.int b) = decide (a = b) := by
    by_cases h : a = b
    · rw [decide_eq_true h, decide_eq_true (congrArg V.int h)]
    · rw [decide_eq_false h, decide_eq_false fun z => h (V.int.inj z)]
  rw [e]
  exact q⟩
theorem r_neS {a b : Str} (q : Q (.bl (decide (a ≠ b))) H) : rNe (.str a) (.str b) H Q := ⟨rfl, by
  have e : (!decide (V.str a = V.str b)) = decide (a ≠ b) := by
    by_cases h : a = b
    · rw [decide_eq_true (congrArg V.str h), decide_eq_false (fun z => z h)]
      rfl
    · rw [decide_eq_true h, decide_eq_false fun z => h (V.str.inj z)]
      rfl
  rw [e]
  exact q⟩
theorem sh_opt (o : Option Int) : Sh K H (optV o) (optD o) := by
  cases o with
  | none => exact .non
  | some i => exact .int i
theorem shAll_wv : ∀ (ws : List Str) (o : Option Int), ShAll K H (wv ws o) (ws.map PyData.str ++ [optD o])
  | [], o => .cons (sh_opt o) .nil
  | w :: ws, o => .cons (.str w) (shAll_wv ws o)
theorem wv_len (ws : List Str) (o : Option Int) : (wv ws o).length = ws.length + 1 := by
  unfold wv sV
  rw [List.length_append, List.length_map]
  rfl
end
/-- all([x in b for x in a]) of words -/
theorem i_allIn {K : PySem.W.Frag} {σ : L2.St} {H : Hp} {Q : VK} {m i j : Nat} {a b : Addr} {ws vn : List Str} (e1 : σ[i]? = some (some (.ref a))) (h1 : SqT K H a (sV ws)) (hl : ws.length ≤ 100000) (h2 : SqT K H b (sV vn))
    (w1 : ∀ x, wipe ((wipe σ [m]).set m (some x)) [m] = wipe σ [m]) (w2 : ∀ x, ((wipe σ [m]).set m (some x))[m]? = some (some x)) (w3 : ∀ x, ((wipe σ [m]).set m (some x))[j]? = some (some (.ref b)))
    (q : ∀ H', Same H H' → Q (.bl (ws.all fun x => decide (x ∈ vn))) H') : tCB (rAll K) (tCons (tLc (iTup K (tVar i)) (gName m) tYes (tOp (rIn K false) (tVar m) (tVar j)) [m]) tNil) σ H Q := by
  have vl : (ws.map fun x => V.bl (decide (x ∈ vn))).length = (sV ws).length := by
    unfold sV
    rw [List.length_map, List.length_map]
  have hl2 : (sV ws).length ≤ 100000 := by
    unfold sV
    rw [List.length_map]
    exact hl
  refine i_cb (i_cons (i_lc ⟨_, e1, a, rfl, ⟨_, h1⟩, fun Dl nD => lr_map walk_tup (ws.map fun x => V.bl (decide (x ∈ vn))) vl hl2 nD (fun _ s => sameT s h1) (fun i y H2 H3 v hv s2 hy Q' k => ?_) (fun _ _ _ => gName_mono) (fun H2 e6 s2 => ?_)⟩))
  · obtain ⟨rfl, hy⟩ := hy
    unfold sV at hy
    rw [List.getElem?_map] at hv hy
    obtain ⟨x, hx, rfl⟩ := Option.map_eq_some_iff.mp hv
    rw [hx] at hy
    cases Option.some.inj hy
    exact ⟨w1 _, _, w2 _, _, w3 _, r_in (.inr (sameT s2 h2)) rfl (flat_sV vn) (inV_sV x vn) (k _ (Same.refl _))⟩
  · refine i_nil ⟨Dl, ws.map fun x => decide (x ∈ vn), rfl, SqL.of (by rw [e6, List.map_map]; rfl), ?_⟩
    have e7 : (ws.map fun x => decide (x ∈ vn)).all id = ws.all fun x => decide (x ∈ vn) := by
      rw [List.all_map]
      rfl
    rw [e7]
    exact q _ s2
/-- a tuple of two or three words or numbers on the spot -/
theorem i_tup2 {a b : V} {σ : L2.St} {H : Hp} {Q : VK} (q : ∀ p, H p = none → Q (.ref p) (upd H p (.tup [a, b]))) : tTup (tCons (tC a) (tCons (tC b) tNil)) σ H Q := ⟨by show 2 ≤ sizeLine; decide, q⟩
theorem i_tup3 {a b c : V} {σ : L2.St} {H : Hp} {Q : VK} (q : ∀ p, H p = none → Q (.ref p) (upd H p (.tup [a, b, c]))) : tTup (tCons (tC a) (tCons (tC b) (tCons (tC c) tNil))) σ H Q := ⟨by show 3 ≤ sizeLine; decide, q⟩
def spStep (K : PySem.W.Frag) : Sp := fun vs H Q _ => ∃ a b ws o vn, vs = [.ref a, .ref b] ∧ SqT K H a (wv ws o) ∧ SqT K H b (sV vn) ∧ ∀ H', Same H H' → Q (.bl (stepB vn o ws)) H'
end Er
set_option Elab.async false
set_option linter.all false
set_option maxRecDepth 100000
set_option maxHeartbeats 4000000
namespace K10
open PySem PySem.Spec PyProof.Rows L2 Er
section
variable {P : Program} {w : World} {K : PySem.W.Frag} {mg : Str → Option Value} {base : Heap} {f : Addr} {fd : FuncData}
theorem sc_is_step : FnScope ["value", "vessels", "names", "name"] ["value", "vessels"] (defScope s_is_step) := ⟨rfl, rfl, rfl, by decide +kernel, rfl, by decide +kernel, by decide +kernel⟩
theorem ok_is_step (T : Tx K mg) (F : FunD K "is_step" "is_step" (defArgs s_is_step) (defBody s_is_step) (defScope s_is_step) [] [] f fd) {fdW : FuncData} (GWi : FnOk P w K mg base CX0 2 (He.ga K "is_within") fdW ["value", "low", "high"] (spWithin K)) (GWiF : FnT K "is_within" s_is_within fdW) (GWiB : Binds K fdW ["value", "low", "high"] []) : FnOk P w K mg base CX0 3 f fd ["value", "vessels"] (spStep K) := by
  refine F.ok sc_is_step (fun vs H Q E h => ?_) (fun cdv A outer s H vs Q E hr h => ?_)
  · obtain ⟨a, b, ws, o, vn, rfl, _⟩ := h
    rfl
  · obtain ⟨a, b, ws, o, vn, rfl, hT, hV, q⟩ := h
    have hr_GWi := hr
    refine ⟨_, PSs.nox (pss_cons (ps_if (PW.pt (pw_or (pt_not (pt_val (pe_callB call_isi (by rfl) (T.fr "isinstance" (mem_at 7 rfl)) (by decide +kernel) (pa_cons (pv 0) (pa_cons (pe_bltn (v := .ty "tuple") (by rfl) (T.fr "tuple" (mem_at 17 rfl)) (by decide +kernel) rfl) pa_nil))))) (pw_or1 (pt_cmpR op_notIn_seq (pe_callB call_len_seq (by rfl) (T.fr "len" (mem_at 8 rfl)) PySem.boot_len (pa_cons (pv 0) pa_nil)) (pe_tup (pa_cons pe_int (pa_cons pe_int pa_nil))) (by rfl)))))
        (pss_one (ps_ret pe_bl))
        pss_nil)
      (pss_cons (ps_set (i := 2) sc_is_step.nd rfl (Or.inl rfl) (pe_slice sl_tup (pv 0) (po_some pe_int) (po_some (pe_un un_neg pe_int))))
      (pss_cons (ps_if (PW.pt (pw_or (pt_not (pt_val (pe_callB (cr_all rfl) (by rfl) (T.fr "all" (mem_at 1 rfl)) (by decide +kernel) (pa_cons (pe_lc (own := [("name", 3)]) (g := gName 3) (tt := tYes) rfl sc_is_step.nd (pi_tup (pv 2)) (blkOk_by (N := ["value", "vessels", "names", "name"]) (sc := defScope s_is_step) (by decide +kernel)) (fun _ _ _ _ _ => pg_name (i := 3) sc_is_step.nd rfl (Or.inl rfl)) (fun _ _ _ _ _ => pts_nil) (fun _ _ _ _ _ => (pe_cmpR (show OpR _ _ (rIn K false) from op_in_seq) (pv 3) (pv 1) (by rfl)))) pa_nil)))) (pw_or1 (pt_not (pt_val (pe_call GWi hr_GWi (by rfl) (T.gd "is_within" (mem_at 2 rfl)) GWiF.kp GWiB .nil pass0 (pa_cons (pe_ix ix_tup (pv 0) (pe_un un_neg pe_int) (fun _ _ => rfl)) (pa_cons pe_int (pa_cons (pe_glob (v := .int 99) (by rfl) (Exists.choose_spec T.int_MOST_AMOUNT) ⟨_, rfl⟩) pa_nil)))))))))
        (pss_one (ps_ret pe_bl))
        pss_nil)
      (pss_cons (ps_if (pt_cmpR op_eq (pe_callB call_len_seq (by rfl) (T.fr "len" (mem_at 8 rfl)) PySem.boot_len (pa_cons (pv 0) pa_nil)) pe_int (nomark _))
        (pss_one (ps_ret (pe_and (pe_cmpR op_eq (pe_ix ix_tup (pv 0) pe_int (fun _ _ => rfl)) pe_str (nomark _)) (pe_one (pe_cmpR op_ne (pe_ix ix_tup (pv 2) pe_int (fun _ _ => rfl)) (pe_ix ix_tup (pv 2) pe_int (fun _ _ => rfl)) (nomark _))))))
        pss_nil)
      (pss_one (ps_ret (pe_cmpR op_in_seq (pe_ix ix_tup (pv 0) pe_int (fun _ _ => rfl)) (pe_tup (pa_cons pe_str (pa_cons pe_str (pa_cons pe_str pa_nil)))) (by rfl)))))))), ?_⟩
    have sh : Sh K H (.ref a) (.tuple (ws.map PyData.str ++ [optD o])) := .tup hT (shAll_wv ws o)
    refine i_if0 (i_or (i_not (i_B (i_isi rfl sh (isK_tuple _) ⟨_, rfl, ?_⟩))))
    refine iteF (i_test (i_op (i_cb (i_cons (i_var rfl (i_nil ⟨a, _, rfl, .inr hT, i_tup2 fun p np => r_nin (.inr (SqT.of upd_same)) rfl rfl rfl ⟨_, rfl, ?_⟩⟩))))))
    have s1 : Same H (upd H p (.tup [.int 3, .int 4])) := same_new np
    rcases ws with _ | ⟨k, _ | ⟨a1, _ | ⟨b1, _ | ⟨c1, r⟩⟩⟩⟩
    · exact q _ s1
    · exact q _ s1
    · refine iteF (i_set ⟨_, rfl, 1, rfl, 1, rfl, -1, rfl, a, _, rfl, sameT s1 hT, (fun z => absurd (show (1 : Nat) = 0 from z.1) (by decide)), fun p2 np2 => ?_⟩)
      have s2 := s1.trans (same_new (o := .tup (sV [a1])) np2)
      refine i_if0 (i_or (i_not (i_B (i_allIn (i := 2) (j := 1) (m := 3) (a := p2) (b := b) (ws := [a1]) (vn := vn) rfl (SqT.of upd_same) (Nat.le_of_ble_eq_true rfl) (sameT s2 hV) (fun _ => rfl) (fun _ => rfl) (fun _ => rfl) (fun H3 s3 => ⟨_, rfl, ?_⟩)))))
      have s4 := s2.trans s3
      refine ite2 (fun e => ?_) (fun e => ?_)
      · have g : stepB vn o [k, a1] = false := by
          show (([a1].all fun x => decide (x ∈ vn)) && _) = _
          rw [bn e]
          rfl
        have z := q _ s4
        rw [g] at z
        exact z
      · refine i_not (i_B (i_call (i_cons ⟨_, rfl, 1, rfl, r_ixT (sameT s4 hT) rfl (i_cons (i_c (i_cons (i_c (i_nil ⟨_, _, 1, 99, rfl, sh_opt o, ⟨_, rfl, ite2 (fun e2 => ?_) (fun e2 => ?_)⟩⟩)))))⟩)))
        · have g : stepB vn o [k, a1] = false := by
            show (([a1].all fun x => decide (x ∈ vn)) && (inO o 1 99 && _)) = _
            rw [bt e, show inO o 1 99 = false from bn e2]
            rfl
          have z := q _ s4
          rw [g] at z
          exact z
        · refine i_if0 (i_test (i_op (i_cb (i_cons (i_var rfl (i_nil ⟨a, _, rfl, .inr (sameT s4 hT), i_c (r_eqI ⟨_, rfl, ?_⟩)⟩))))))
          refine iteF (i_ret (i_op ⟨_, rfl, i_c (r_ixT (sameT s4 hT) rfl (i_tup3 fun p3 np3 => r_in (.inr (SqT.of upd_same)) rfl rfl (inV_sV k ["fill", "dye", "draw"]) ?_))⟩))
          have g : stepB vn o [k, a1] = decide (k ∈ (["fill", "dye", "draw"] : List Str)) := by
            show (([a1].all fun x => decide (x ∈ vn)) && (inO o 1 99 && decide (k ∈ (["fill", "dye", "draw"] : List Str)))) = _
            rw [bt e, show inO o 1 99 = true from bt e2]
            rfl
          rw [← g]
          exact q _ (s4.trans (same_new np3))
    · refine iteF (i_set ⟨_, rfl, 1, rfl, 1, rfl, -1, rfl, a, _, rfl, sameT s1 hT, (fun z => absurd (show (1 : Nat) = 0 from z.1) (by decide)), fun p2 np2 => ?_⟩)
      have s2 := s1.trans (same_new (o := .tup (sV [a1, b1])) np2)
      refine i_if0 (i_or (i_not (i_B (i_allIn (i := 2) (j := 1) (m := 3) (a := p2) (b := b) (ws := [a1, b1]) (vn := vn) rfl (SqT.of upd_same) (Nat.le_of_ble_eq_true rfl) (sameT s2 hV) (fun _ => rfl) (fun _ => rfl) (fun _ => rfl) (fun H3 s3 => ⟨_, rfl, ?_⟩)))))
      have s4 := s2.trans s3
      refine ite2 (fun e => ?_) (fun e => ?_)
      · have g : stepB vn o [k, a1, b1] = false := by
          show (([a1, b1].all fun x => decide (x ∈ vn)) && _) = _
          rw [bn e]
          rfl
        have z := q _ s4
        rw [g] at z
        exact z
      · refine i_not (i_B (i_call (i_cons ⟨_, rfl, 1, rfl, r_ixT (sameT s4 hT) rfl (i_cons (i_c (i_cons (i_c (i_nil ⟨_, _, 1, 99, rfl, sh_opt o, ⟨_, rfl, ite2 (fun e2 => ?_) (fun e2 => ?_)⟩⟩)))))⟩)))
        · have g : stepB vn o [k, a1, b1] = false := by
            show (([a1, b1].all fun x => decide (x ∈ vn)) && (inO o 1 99 && _)) = _
            rw [bt e, show inO o 1 99 = false from bn e2]
            rfl
          have z := q _ s4
          rw [g] at z
          exact z
        · refine i_if0 (i_test (i_op (i_cb (i_cons (i_var rfl (i_nil ⟨a, _, rfl, .inr (sameT s4 hT), i_c (r_eqI ⟨_, rfl, ?_⟩)⟩))))))
          refine iteT (i_ret (i_andV (i_op ⟨_, rfl, i_c (r_ixT (sameT s4 hT) rfl (i_c (r_eqS ⟨_, rfl, ite2 (fun e3 => ?_) (fun e3 => ?_)⟩)))⟩)))
          · have hN : SqT K H3 p2 (sV [a1, b1]) := sameT s3 (SqT.of upd_same)
            refine i_op ⟨_, rfl, i_c (r_ixT hN rfl ⟨_, rfl, i_c (r_ixT hN rfl (r_neS ?_))⟩)⟩
            have g : stepB vn o [k, a1, b1] = decide (a1 ≠ b1) := by
              show (([a1, b1].all fun x => decide (x ∈ vn)) && (inO o 1 99 && (decide (k = ("pour" : Str)) && decide (a1 ≠ b1)))) = _
              rw [bt e, show inO o 1 99 = true from bt e2, e3]
              rfl
            rw [← g]
            exact q _ s4
          · have g : stepB vn o [k, a1, b1] = false := by
              show (([a1, b1].all fun x => decide (x ∈ vn)) && (inO o 1 99 && (decide (k = ("pour" : Str)) && decide (a1 ≠ b1)))) = _
              rw [bt e, show inO o 1 99 = true from bt e2, Bool.eq_false_iff.mpr e3]
              rfl
            have z := q _ s4
            rw [g] at z
            exact z
    · have g : inV (V.int ↑(wv (k :: a1 :: b1 :: c1 :: r) o).length) [V.int 3, V.int 4] = false := by
        rw [wv_len]
        show (((3:Int) == (((k :: a1 :: b1 :: c1 :: r).length + 1 : Nat) : Int)) || (((4:Int) == (((k :: a1 :: b1 :: c1 :: r).length + 1 : Nat) : Int)) || false)) = false
        simp only [List.length_cons, Bool.or_false, Bool.or_eq_false_iff, beq_eq_false_iff_ne]
        omega
      rw [g]
      exact q _ s1
end
end K10
set_option Elab.async false
set_option linter.all false
set_option maxRecDepth 100000
set_option maxHeartbeats 4000000
/-! Tuples that are made here and whose methods are called. -/
namespace Er
open PySem PySem.Spec PyProof.Rows L2
/-- a tuple whose object has no dict of its own -/
def TupD (K : PySem.W.Frag) (H : Hp) (p : Addr) : Prop := (∃ o, K.lookup p = some o ∧ o.cls = .type "tuple" ∧ o.dict = none) ∨ ∃ o u, H p = some (.frz o u) ∧ o.cls = .type "tuple" ∧ o.dict = none
theorem TupD.same {K : PySem.W.Frag} {H H' : Hp} {p : Addr} (s : Same H H') (h : TupD K H p) : TupD K H' p := by
  rcases h with h | ⟨o, u, h, c⟩
  · exact .inl h
  · exact .inr ⟨o, u, s _ _ h, c⟩
section
variable {X : Cx}
/-- tuple(a list): the object is known -/
def rTupF (K : PySem.W.Frag) : List V → Hp → VK → Prop := fun xs H Q => ∃ p ys, xs = [.ref p] ∧ SqL K H p ys ∧ ∀ l o, H l = none → o.cls = .type "tuple" → o.dict = none → Q (.ref l) (upd H l (.frz o (.tup ys)))
theorem call_tupleF : CallR X (.type "tuple") (rTupF X.K) := by
  intro pins s σ H xs us Q I r h
  obtain ⟨p, ys, rfl, hq, q⟩ := h
  obtain ⟨u, rfl, rx⟩ := vals1 r
  cases rx
  obtain ⟨its, r', pl, hz⟩ := I.list hq
  have hlen := r'.length
  refine call_tuple_list pl.isList (fun h' kp => ?_) (by simp only [List.size_toArray] <;> omega)
  have I1 : Inv X pins σ H { s with heap := h' } := I.kept (t' := s.toks) kp
  have I2 : Inv X pins σ (upd H h'.objs.size (.frz { cls := .type "tuple", data := .seq its.toArray } (.tup ys))) { s with heap := h'.push { cls := .type "tuple", data := .seq its.toArray } } :=
    I1.laid (t' := s.toks) (fun b o e => Heap.get?_push_of_some _ e) (Nat.le_refl _) (show ObjOk X.prog X.w _ _ _ (.frz _ (.tup ys)) from ⟨Heap.get?_push_size _ rfl, hz, its, r', IsTup.new _ _⟩)
  exact ⟨.ref h'.objs.size, _, I2, rfl, q _ _ (I1.hok.fresh (Nat.le_refl _)) rfl rfl⟩
/-- t.m(..) of such a tuple -/
def tTM (K : PySem.W.Frag) (r : V → List V → Hp → VK → Prop) (to : TE) (t : TA) : TE := fun σ H Q => to σ H fun x H1 => (∃ p, x = .ref p ∧ TupD K H1 p) ∧ t σ H1 fun xs H2 => r x xs H2 Q
variable {o e : Expr} {es : List Expr} {to : TE} {t : TA} {name : Str} {apos cpos : Pos} {id : String} {r : V → List V → Hp → VK → Prop}
theorem pe_tm (pa : PlainAttrs "tuple") (slot : Slot "tuple" name id) (hty : typeOf (.builtin id) = pure (.type "method_descriptor")) (hm : MtR X id r) (ho : PE X o to) (ha : PA X (e :: es) t)
    (hbase : attributeBase o name X.env (eval o X.env) = eval o X.env := by rfl)
    (hfew : ((backTo cpos (starEach (e :: es) X.env)).all (fun x => !x.1) && (backToKw cpos (keywordEach [] X.env)).all (fun x => x.1.isSome)
      && decide ((e :: es).length + ([] : List Keyword).length + (if ([] : List Keyword).isEmpty then 0 else 1) < 30)) = true := by rfl)
    (hline : (apos.endLine == cpos.line) = true := by rfl) (hs : starEach (e :: es) X.env = (false, eval e X.env) :: starEach es X.env := by rfl) (hplain : (backTo cpos (starEach es X.env)).any (·.1) = false := by rfl) :
    PE X (.Call (.Attribute o name apos) (e :: es) [] cpos) (tTM X.K r to t) := by
  refine ⟨fun pins s σ H Q I h => ?_⟩
  refine wpAny_Call_method_late hbase hfew hline rfl (thn (ho.run pins s σ H _ I h) fun v s1 ⟨x, H1, I1, r1, ⟨p, ex, ty⟩, q1⟩ => ?_)
  subst ex
  cases r1
  have hh : s1.TypeIs (.ref p) "tuple" ∧ ∀ a, (Value.ref p) = .ref a → ∃ ob, s1.heap.get? a = some ob ∧ ob.dict = none := by
    rcases ty with ⟨o, hk, hc, hd⟩ | ⟨o, u, hk, hc, hd⟩
    · refine ⟨⟨o, I1.kIn p o hk, hc⟩, fun a e => ?_⟩
      cases e
      exact ⟨o, I1.kIn _ o hk, hd⟩
    · have z := (I1.hok p _ hk).1
      refine ⟨⟨o, z, hc⟩, fun a e => ?_⟩
      cases e
      exact ⟨o, z, hd⟩
  obtain ⟨h1, h2⟩ := hh
  refine ⟨"tuple", id, pa, slot, hty, h1, h2, ?_⟩
  have hA := ha.run cpos pins s1 σ H1 _ I1 q1
  rw [hs] at hA ⊢
  refine Calls.callWith_builtin (by show (false || (backTo cpos (starEach es X.env)).any (·.1)) = false; rw [hplain] <;> rfl) (Calls.evalArgs_plain ?_)
  exact thn hA fun us s2 ⟨vs, H2, I2, r2, q2⟩ => hm pins s2 σ H2 (.ref p) vs _ us Q I2 rfl r2 q2
end
end Er
set_option Elab.async false
set_option linter.all false
set_option maxRecDepth 100000
set_option maxHeartbeats 4000000
/-! xs[i] op= e of a list; what a step moves. -/
namespace Er
open PySem PySem.Spec PyProof.Rows L2
def rGetL (K : PySem.W.Frag) : V → V → Hp → VK → Prop := fun o i H Q => ∃ p xs k z, o = .ref p ∧ i = .int k ∧ 0 ≤ k ∧ SqL K H p xs ∧ xs[k.toNat]? = some z ∧ Q z H
theorem pget_list {X : Cx} : PGet X (rGetL X.K) := by
  intro pins s σ H o i ov iv Q I ro ri h
  obtain ⟨p, xs, k, z, rfl, rfl, h0, hq, hz, q⟩ := h
  cases ro
  obtain ⟨t, rfl⟩ := ri
  obtain ⟨its, r, pl, hz2⟩ := I.list hq
  obtain ⟨w, ew, rw'⟩ := r.get hz
  have hl := r.length
  have hn := line63
  have hlt : k.toNat < xs.length := (List.getElem?_eq_some_iff.mp hz).1
  have fin : EP X pins σ Q w s := ⟨z, H, I, rw', q⟩
  exact PySem.wpAny_getItem_list pl.isList h0 (by omega) (by simpa using ew) fin
theorem step_cases {vn ws : List Str} {o : Option Int} (h : stepB vn o ws = true) : (∃ n : Int, o = some n ∧ 1 ≤ n ∧ n ≤ 99) ∧ ((∃ a, a ∈ vn ∧ (ws = [("fill" : Str), a] ∨ ws = [("dye" : Str), a] ∨ ws = [("draw" : Str), a])) ∨ ∃ a b, a ∈ vn ∧ b ∈ vn ∧ a ≠ b ∧ ws = [("pour" : Str), a, b]) := by
  have ho : inO o 1 99 = true → ∃ n : Int, o = some n ∧ 1 ≤ n ∧ n ≤ 99 := fun z => by
    cases o with
    | none => cases z
    | some n =>
      obtain ⟨z1, z2⟩ := Bool.and_eq_true_iff.mp (show (decide (1 ≤ n) && decide (n ≤ 99)) = true from z)
      exact ⟨n, rfl, of_decide_eq_true z1, of_decide_eq_true z2⟩
  rcases ws with _ | ⟨k, _ | ⟨a, _ | ⟨b, _ | ⟨c, r⟩⟩⟩⟩
  · cases h
  · cases h
  · obtain ⟨h1, h2⟩ := Bool.and_eq_true_iff.mp (show (([a].all fun x => decide (x ∈ vn)) && (inO o 1 99 && decide (k ∈ (["fill", "dye", "draw"] : List Str)))) = true from h)
    obtain ⟨h2, h3⟩ := Bool.and_eq_true_iff.mp h2
    have ha : a ∈ vn := of_decide_eq_true (List.all_eq_true.mp h1 a (List.mem_cons_self ..))
    refine ⟨ho h2, .inl ⟨a, ha, ?_⟩⟩
    have h4 := of_decide_eq_true h3
    rcases List.mem_cons.mp h4 with rfl | h4
    · exact .inl rfl
    rcases List.mem_cons.mp h4 with rfl | h4
    · exact .inr (.inl rfl)
    rcases List.mem_cons.mp h4 with rfl | h4
    · exact .inr (.inr rfl)
    · cases h4
  · obtain ⟨h1, h2⟩ := Bool.and_eq_true_iff.mp (show (([a, b].all fun x => decide (x ∈ vn)) && (inO o 1 99 && (decide (k = ("pour" : Str)) && decide (a ≠ b)))) = true from h)
    obtain ⟨h5, h6⟩ := Bool.and_eq_true_iff.mp h2
    obtain ⟨h3, h4⟩ := Bool.and_eq_true_iff.mp h6
    have ha : a ∈ vn := of_decide_eq_true (List.all_eq_true.mp h1 a (List.mem_cons_self ..))
    have hb : b ∈ vn := of_decide_eq_true (List.all_eq_true.mp h1 b (List.mem_cons_of_mem _ (List.mem_cons_self ..)))
    have hk := of_decide_eq_true h3
    subst hk
    exact ⟨ho h5, .inr ⟨a, b, ha, hb, of_decide_eq_true h4, rfl⟩⟩
  · cases h
def optS : Option Str → V
  | some x => .str x
  | none => .non
/-- the vessel that a right step takes from, that it brings to -/
def takenS : List Str → Option Str
  | [k, a] => if k = ("draw" : Str) then some a else none
  | [_, a, _] => some a
  | _ => none
def broughtS : List Str → Option Str
  | [k, a] => if k = ("draw" : Str) then none else some a
  | [_, _, b] => some b
  | _ => none
theorem takenS_2 (k a : Str) : takenS [k, a] = if k = ("draw" : Str) then some a else none := rfl
theorem broughtS_2 (k a : Str) : broughtS [k, a] = if k = ("draw" : Str) then none else some a := rfl
def setF (g : Int → Int → Int) (ns : List Int) (j : Nat) (x : Int) : List Int := ns.set j (g (ns.getD j 0) x)
theorem setF_len {g : Int → Int → Int} {ns : List Int} {j : Nat} {x : Int} : (setF g ns j x).length = ns.length := List.length_set
def takeL (vn : List Str) (ns : List Int) (m : Int) : Option Str → List Int
  | some a => setF (fun i j => i - j) ns (vn.idxOf a) m
  | none => ns
def bringL (vn : List Str) (ns : List Int) (m : Int) : Option Str → List Int
  | some a => setF (fun i j => i + j) ns (vn.idxOf a) m
  | none => ns
def movedL (vn : List Str) (ns : List Int) (ws : List Str) (m : Int) : List Int := bringL vn (takeL vn ns m (takenS ws)) m (broughtS ws)
def spTaken (K : PySem.W.Frag) (g : List Str → Option Str) : Sp := fun vs H Q _ => ∃ c ws o vn, vs = [.ref c] ∧ SqT K H c (wv ws o) ∧ stepB vn o ws = true ∧ ∀ H', Same H H' → Q (optS (g ws)) H'
def iV (ns : List Int) : List V := ns.map V.int
def spMoved (K : PySem.W.Frag) : Sp := fun vs H Q _ => ∃ a b c ws o vn ns m, vs = [.ref a, .ref b, .ref c, .int m] ∧ SqT K H a (sV vn) ∧ TupD K H a ∧ SqT K H b (iV ns) ∧ SqT K H c (wv ws o) ∧ ns.length = vn.length ∧ vn.length ≤ 1000 ∧ stepB vn o ws = true ∧ ∀ p H', Same H H' → H' p = some (.tup (iV (movedL vn ns ws m))) → Q (.ref p) H'
theorem idx_at {a : Str} {vn : List Str} (h : a ∈ vn) : vn[vn.idxOf a]? = some a ∧ ∀ m, m < vn.idxOf a → vn[m]? ≠ some a := by
  induction vn with
  | nil => cases h
  | cons b vn ih =>
    by_cases e : b = a
    · subst e
      rw [List.idxOf_cons_self]
      exact ⟨rfl, fun m hm => absurd hm (Nat.not_lt_zero _)⟩
    · have e2 : (b :: vn).idxOf a = vn.idxOf a + 1 := by
        rw [List.idxOf_cons]
        have : (b == a) = false := beq_eq_false_iff_ne.mpr e
        rw [this]
        rfl
      rw [e2]
      rcases List.mem_cons.mp h with z | z
      · exact absurd z.symm e
      · obtain ⟨h1, h2⟩ := ih z
        refine ⟨h1, fun m hm => ?_⟩
        cases m with
        | zero => exact fun z => e (Option.some.inj z)
        | succ m => exact h2 m (by omega)
theorem i_par {i j : Nat} {ta : TA} {u : TS} {D : Ends} {σ : L2.St} {H : Hp} (h : ta σ H fun vs H1 => ∃ v w, vs = [v, w] ∧ u D ((σ.set i (some v)).set j (some w)) H1) : tSeq (tPar i j ta) u D σ H := h
def rTIx (K : PySem.W.Frag) : V → List V → Hp → VK → Prop := fun x xs H Q => ∃ p, ∃ ys : List Str, ∃ z j, x = .ref p ∧ xs = [.str z] ∧ SqT K H p (ys.map V.str) ∧ ys[j]? = some z ∧ (∀ m, m < j → ys[m]? ≠ some z) ∧ Q (.int (j : Nat)) H
theorem aug_read {K : PySem.W.Frag} {σ : L2.St} {D : Ends} {H2 : Hp} {a l : Addr} {i : Nat} {vn : List Str} {z : Option Str} {ms : List Int} {m : Int} {g : Int → Int → Int} (e0 : σ[0]? = some (some (.ref a))) (e3 : σ[3]? = some (some (.int m))) (e4 : σ[4]? = some (some (.ref l))) (ei : σ[i]? = some (some (optS z)))
    (hA : SqT K H2 a (sV vn)) (hD : TupD K H2 a) (hz : ∀ x, z = some x → x ∈ vn) (hL : H2 l = some (.lst (iV ms))) (hn : ms.length = vn.length)
    (k : ∀ H3, H3 l = some (.lst (iV (match z with | some x => setF g ms (vn.idxOf x) m | none => ms))) → (∀ b, b ≠ l → H3 b = H2 b) → D.nx σ H3) :
    tIfS (tTest (tOp (fun x y H Q => y = V.non ∧ Q (V.bl !decide (x = V.non)) H) (tVar i) (tC V.non))) (tAugS (tVar 4) (tTM K (rTIx K) (tVar 0) (tCons (tVar i) tNil)) (tVar 3) (rGetL K) (ipI g) rSetL) tNext D σ H2 := by
  cases z with
  | none => exact i_if1 (i_test (i_op ⟨_, ei, i_c ⟨rfl, _, rfl, k H2 hL fun _ _ => rfl⟩⟩))
  | some x =>
    refine i_if1 (i_test (i_op ⟨_, ei, i_c ⟨rfl, _, rfl, ?_⟩⟩))
    rw [show (!decide (optS (some x) = V.non)) = true by rw [decide_eq_false (fun z => by cases z)]; rfl]
    obtain ⟨h1, h2⟩ := idx_at (hz x rfl)
    have hj : vn.idxOf x < vn.length := (List.getElem?_eq_some_iff.mp h1).1
    have hj2 : vn.idxOf x < ms.length := by omega
    have hv : (iV ms)[((vn.idxOf x : Nat) : Int).toNat]? = some (V.int (ms.getD (vn.idxOf x) 0)) := by
      rw [Int.toNat_natCast]
      unfold iV
      rw [List.getElem?_map, List.getElem?_eq_getElem hj2, List.getD_eq_getElem?_getD, List.getElem?_eq_getElem hj2]
      rfl
    have hi : ixN (iV ms).length ((vn.idxOf x : Nat) : Int) = some (vn.idxOf x) := by
      unfold ixN
      have e : (iV ms).length = ms.length := List.length_map ..
      rw [if_pos (by omega), if_pos (by omega), Int.toNat_natCast]
    have hw : (iV ms).set (vn.idxOf x) (V.int (g (ms.getD (vn.idxOf x) 0) m)) = iV (setF g ms (vn.idxOf x) m) := by
      unfold iV setF
      rw [List.map_set]
    refine ⟨_, e4, _, e0, ⟨a, rfl, hD⟩, _, ei, a, vn, x, _, rfl, rfl, hA, h1, h2, l, iV ms, _, _, rfl, rfl, by omega, SqL.of hL, hv, _, e3, _, _, rfl, rfl, l, iV ms, _, vn.idxOf x, rfl, rfl, hL, hi, ?_⟩
    refine k _ ?_ fun b hb => upd_ne hb
    rw [upd_same, hw]
end Er
set_option Elab.async false
set_option linter.all false
set_option maxRecDepth 100000
set_option maxHeartbeats 4000000
namespace K10
open PySem PySem.Spec PyProof.Rows L2 Er
section
variable {P : Program} {w : World} {K : PySem.W.Frag} {mg : Str → Option Value} {base : Heap} {f : Addr} {fd : FuncData}
theorem sc_vessel_taken : FnScope ["step"] ["step"] (defScope s_vessel_taken) := ⟨rfl, rfl, rfl, by decide +kernel, rfl, by decide +kernel, by decide +kernel⟩
theorem ok_vessel_taken (T : Tx K mg) (F : FunD K "vessel_taken" "vessel_taken" (defArgs s_vessel_taken) (defBody s_vessel_taken) (defScope s_vessel_taken) [] [] f fd) : FnOk P w K mg base CX0 1 f fd ["step"] (spTaken K takenS) := by
  refine F.ok sc_vessel_taken (fun vs H Q E h => ?_) (fun cdv A outer s H vs Q E hr h => ?_)
  · obtain ⟨c, ws, o, vn, rfl, _⟩ := h
    rfl
  · obtain ⟨c, ws, o, vn, rfl, hT, hB, q⟩ := h
    refine ⟨_, (pss_one (ps_ret (pe_ifExp (pt_cmpR op_in_seq (pe_ix ix_tup (pv 0) pe_int (fun _ _ => rfl)) (pe_tup (pa_cons pe_str (pa_cons pe_str pa_nil))) (by rfl)) (pe_ix ix_tup (pv 0) pe_int (fun _ _ => rfl)) pe_non))), ?_⟩
    obtain ⟨_, hw⟩ := step_cases hB
    rcases hw with ⟨a, ha, rfl | rfl | rfl⟩ | ⟨a, b, ha, hb, hab, rfl⟩
    · refine i_ret (i_ifx (i_test (i_op ⟨_, rfl, i_c (r_ixT hT rfl (i_tup2 fun p np => r_in (.inr (SqT.of upd_same)) rfl rfl (inV_sV _ ["pour", "draw"]) ⟨_, rfl, ?_⟩))⟩)))
      have z := q _ (same_new (o := .tup (sV ["pour", "draw"])) np)
      have g : takenS ["fill", a] = none := (takenS_2 _ _).trans (if_neg (by decide +kernel))
      rw [g] at z
      rw [show decide (("fill" : Str) ∈ (["pour", "draw"] : List Str)) = false by decide +kernel]
      exact z
    · refine i_ret (i_ifx (i_test (i_op ⟨_, rfl, i_c (r_ixT hT rfl (i_tup2 fun p np => r_in (.inr (SqT.of upd_same)) rfl rfl (inV_sV _ ["pour", "draw"]) ⟨_, rfl, ?_⟩))⟩)))
      have z := q _ (same_new (o := .tup (sV ["pour", "draw"])) np)
      have g : takenS ["dye", a] = none := (takenS_2 _ _).trans (if_neg (by decide +kernel))
      rw [g] at z
      rw [show decide (("dye" : Str) ∈ (["pour", "draw"] : List Str)) = false by decide +kernel]
      exact z
    · refine i_ret (i_ifx (i_test (i_op ⟨_, rfl, i_c (r_ixT hT rfl (i_tup2 fun p np => r_in (.inr (SqT.of upd_same)) rfl rfl (inV_sV _ ["pour", "draw"]) ⟨_, rfl, ?_⟩))⟩)))
      have z := q _ (same_new (o := .tup (sV ["pour", "draw"])) np)
      have g : takenS ["draw", a] = some a := (takenS_2 _ _).trans (if_pos (by decide +kernel))
      rw [g] at z
      rw [show decide (("draw" : Str) ∈ (["pour", "draw"] : List Str)) = true by decide +kernel]
      exact ⟨_, rfl, i_c (r_ixT (sameT (same_new np) hT) rfl z)⟩
    · refine i_ret (i_ifx (i_test (i_op ⟨_, rfl, i_c (r_ixT hT rfl (i_tup2 fun p np => r_in (.inr (SqT.of upd_same)) rfl rfl (inV_sV _ ["pour", "draw"]) ⟨_, rfl, ?_⟩))⟩)))
      have z := q _ (same_new (o := .tup (sV ["pour", "draw"])) np)
      have g : takenS ["pour", a, b] = some a := rfl
      rw [g] at z
      rw [show decide (("pour" : Str) ∈ (["pour", "draw"] : List Str)) = true by decide +kernel]
      exact ⟨_, rfl, i_c (r_ixT (sameT (same_new np) hT) rfl z)⟩
theorem sc_vessel_brought : FnScope ["step"] ["step"] (defScope s_vessel_brought) := ⟨rfl, rfl, rfl, by decide +kernel, rfl, by decide +kernel, by decide +kernel⟩
theorem ok_vessel_brought (T : Tx K mg) (F : FunD K "vessel_brought" "vessel_brought" (defArgs s_vessel_brought) (defBody s_vessel_brought) (defScope s_vessel_brought) [] [] f fd) : FnOk P w K mg base CX0 1 f fd ["step"] (spTaken K broughtS) := by
  refine F.ok sc_vessel_brought (fun vs H Q E h => ?_) (fun cdv A outer s H vs Q E hr h => ?_)
  · obtain ⟨c, ws, o, vn, rfl, _⟩ := h
    rfl
  · obtain ⟨c, ws, o, vn, rfl, hT, hB, q⟩ := h
    refine ⟨_, (pss_cons (ps_if (pt_cmpR op_eq (pe_ix ix_tup (pv 0) pe_int (fun _ _ => rfl)) pe_str (nomark _))
        (pss_one (ps_ret pe_non))
        pss_nil)
      (pss_one (ps_ret (pe_ifExp (pt_cmpR op_eq (pe_ix ix_tup (pv 0) pe_int (fun _ _ => rfl)) pe_str (nomark _)) (pe_ix ix_tup (pv 0) pe_int (fun _ _ => rfl)) (pe_ix ix_tup (pv 0) pe_int (fun _ _ => rfl)))))), ?_⟩
    obtain ⟨_, hw⟩ := step_cases hB
    have z := q _ (Same.refl _)
    rcases hw with ⟨a, ha, rfl | rfl | rfl⟩ | ⟨a, b, ha, hb, hab, rfl⟩
    · have g : broughtS ["fill", a] = some a := (broughtS_2 _ _).trans (if_neg (by decide +kernel))
      rw [g] at z
      refine i_if0 (i_test (i_op ⟨_, rfl, i_c (r_ixT hT rfl (i_c (r_eqS ⟨_, rfl, ?_⟩)))⟩))
      rw [show decide (("fill" : Str) = ("draw" : Str)) = false by decide +kernel]
      refine iteF (i_ret (i_ifx (i_test (i_op ⟨_, rfl, i_c (r_ixT hT rfl (i_c (r_eqS ⟨_, rfl, ?_⟩)))⟩))))
      rw [show decide (("fill" : Str) = ("pour" : Str)) = false by decide +kernel]
      exact ⟨_, rfl, i_c (r_ixT hT rfl z)⟩
    · have g : broughtS ["dye", a] = some a := (broughtS_2 _ _).trans (if_neg (by decide +kernel))
      rw [g] at z
      refine i_if0 (i_test (i_op ⟨_, rfl, i_c (r_ixT hT rfl (i_c (r_eqS ⟨_, rfl, ?_⟩)))⟩))
      rw [show decide (("dye" : Str) = ("draw" : Str)) = false by decide +kernel]
      refine iteF (i_ret (i_ifx (i_test (i_op ⟨_, rfl, i_c (r_ixT hT rfl (i_c (r_eqS ⟨_, rfl, ?_⟩)))⟩))))
      rw [show decide (("dye" : Str) = ("pour" : Str)) = false by decide +kernel]
      exact ⟨_, rfl, i_c (r_ixT hT rfl z)⟩
    · have g : broughtS ["draw", a] = none := (broughtS_2 _ _).trans (if_pos (by decide +kernel))
      rw [g] at z
      refine i_if0 (i_test (i_op ⟨_, rfl, i_c (r_ixT hT rfl (i_c (r_eqS ⟨_, rfl, ?_⟩)))⟩))
      rw [show decide (("draw" : Str) = ("draw" : Str)) = true by decide +kernel]
      exact z
    · have g : broughtS ["pour", a, b] = some b := rfl
      rw [g] at z
      refine i_if0 (i_test (i_op ⟨_, rfl, i_c (r_ixT hT rfl (i_c (r_eqS ⟨_, rfl, ?_⟩)))⟩))
      rw [show decide (("pour" : Str) = ("draw" : Str)) = false by decide +kernel]
      refine iteF (i_ret (i_ifx (i_test (i_op ⟨_, rfl, i_c (r_ixT hT rfl (i_c (r_eqS ⟨_, rfl, ?_⟩)))⟩))))
      rw [show decide (("pour" : Str) = ("pour" : Str)) = true by decide +kernel]
      exact ⟨_, rfl, i_c (r_ixT hT rfl z)⟩
end
end K10
set_option Elab.async false
set_option linter.all false
set_option maxRecDepth 100000
set_option maxHeartbeats 4000000
namespace K10
open PySem PySem.Spec PyProof.Rows L2 Er
section
variable {P : Program} {w : World} {K : PySem.W.Frag} {mg : Str → Option Value} {base : Heap} {f : Addr} {fd : FuncData}
theorem sc_moved_on : FnScope ["vessels", "stand", "step", "much", "behind", "gone", "come"] ["vessels", "stand", "step", "much"] (defScope s_moved_on) := ⟨rfl, rfl, rfl, by decide +kernel, rfl, by decide +kernel, by decide +kernel⟩
theorem ok_moved_on (T : Tx K mg) (F : FunD K "moved_on" "moved_on" (defArgs s_moved_on) (defBody s_moved_on) (defScope s_moved_on) [] [] f fd) {fdT fdB : FuncData} (GVt : FnOk P w K mg base CX0 1 (He.ga K "vessel_taken") fdT ["step"] (spTaken K takenS)) (GVtF : FnT K "vessel_taken" s_vessel_taken fdT) (GVtB : Binds K fdT ["step"] [])
    (GVb : FnOk P w K mg base CX0 1 (He.ga K "vessel_brought") fdB ["step"] (spTaken K broughtS)) (GVbF : FnT K "vessel_brought" s_vessel_brought fdB) (GVbB : Binds K fdB ["step"] []) : FnOk P w K mg base CX0 2 f fd ["vessels", "stand", "step", "much"] (spMoved K) := by
  refine F.ok sc_moved_on (fun vs H Q E h => ?_) (fun cdv A outer s H vs Q E hr h => ?_)
  · obtain ⟨a, b, c, ws, o, vn, ns, m, rfl, _⟩ := h
    rfl
  · obtain ⟨a, b, c, ws, o, vn, ns, m, rfl, hA, hD, hB, hC, hn, hl, hS, q⟩ := h
    have hr_GVt := hr
    have hr_GVb := hr
    refine ⟨_, PSs.nox (pss_cons (ps_set (i := 4) sc_moved_on.nd rfl (Or.inl rfl) (pe_callTy call_list_of (by rfl) (T.fr "list" (mem_at 9 rfl)) (by decide +kernel) (pa_cons (pv 1) pa_nil)))
      (pss_cons (ps_par (i := 5) (j := 6) (by rfl) sc_moved_on.nd rfl rfl (by decide) rfl rfl (pa_cons (pe_call GVt hr_GVt (by rfl) (T.gd "vessel_taken" (mem_at 7 rfl)) GVtF.kp GVtB .nil pass0 (pa_cons (pv 2) pa_nil)) (pa_cons (pe_call GVb hr_GVb (by rfl) (T.gd "vessel_brought" (mem_at 8 rfl)) GVbF.kp GVbB .nil pass0 (pa_cons (pv 2) pa_nil)) pa_nil)) (by rfl))
      (pss_cons (ps_if (pt_cmpR op_notN (pv 5) pe_non (nomark _))
        (pss_one (ps_augS (pv 4) (pe_tm PySem.F.plainAttrs_tuple PySem.F.slot_tuple_index PySem.F.type_tuple_index mt_tup_index (pv 0) (pa_cons (pv 5) pa_nil)) pget_list (pv 3) ip_sub set_list))
        pss_nil)
      (pss_cons (ps_if (pt_cmpR op_notN (pv 6) pe_non (nomark _))
        (pss_one (ps_augS (pv 4) (pe_tm PySem.F.plainAttrs_tuple PySem.F.slot_tuple_index PySem.F.type_tuple_index mt_tup_index (pv 0) (pa_cons (pv 6) pa_nil)) pget_list (pv 3) ip_add set_list))
        pss_nil)
      (pss_one (ps_ret (pe_callTy call_tuple_of (by rfl) (T.fr "tuple" (mem_at 17 rfl)) (by decide +kernel) (pa_cons (pv 4) pa_nil)))))))), ?_⟩
    refine i_set (i_cb (i_cons (i_var rfl (i_nil ⟨b, iV ns, rfl, .inr hB, fun l nl => ?_⟩))))
    have s1 : Same H (upd H l (.lst (iV ns))) := same_new nl
    have hs := step_cases hS
    have tm : ∀ x, takenS ws = some x → x ∈ vn := fun x hx => by
      rcases hs.2 with ⟨y, hy, rfl | rfl | rfl⟩ | ⟨y, u, hy, hu, _, rfl⟩
      · rw [takenS_2, if_neg (by decide +kernel)] at hx
        cases hx
      · rw [takenS_2, if_neg (by decide +kernel)] at hx
        cases hx
      · rw [takenS_2, if_pos rfl] at hx
        cases hx
        exact hy
      · cases hx
        exact hy
    have bm : ∀ x, broughtS ws = some x → x ∈ vn := fun x hx => by
      rcases hs.2 with ⟨y, hy, rfl | rfl | rfl⟩ | ⟨y, u, hy, hu, _, rfl⟩
      · rw [broughtS_2, if_neg (by decide +kernel)] at hx
        cases hx
        exact hy
      · rw [broughtS_2, if_neg (by decide +kernel)] at hx
        cases hx
        exact hy
      · rw [broughtS_2, if_pos rfl] at hx
        cases hx
      · cases hx
        exact hu
    refine i_par (i_cons (i_call (i_cons (i_var rfl (i_nil ⟨c, ws, o, vn, rfl, sameT s1 hC, hS, fun H2 s2 => ?_⟩)))))
    have s3 := s1.trans s2
    refine i_cons (i_call (i_cons (i_var rfl (i_nil ⟨c, ws, o, vn, rfl, sameT s3 hC, hS, fun H3 s4 => ?_⟩))))
    have s5 := s3.trans s4
    have hL3 : H3 l = some (.lst (iV ns)) := s4 _ _ (s2 _ _ upd_same)
    refine i_nil ⟨_, _, rfl, ?_⟩
    refine i_seq (aug_read (z := takenS ws) (ms := ns) (vn := vn) (a := a) (l := l) (m := m) rfl rfl rfl rfl (sameT s5 hA) (hD.same s5) tm hL3 hn fun H4 e4 f4 => ?_)
    have s6 : Same H H4 := fun b u hb => by
      have hbl : b ≠ l := fun z => by
        rw [z, nl] at hb
        cases hb
      rw [f4 b hbl]
      exact s5 b u hb
    refine i_seq (aug_read (z := broughtS ws) (ms := takeL vn ns m (takenS ws)) (vn := vn) (a := a) (l := l) (m := m) rfl rfl rfl rfl (sameT s6 hA) (hD.same s6) bm e4 ?_ fun H5 e5 f5 => ?_)
    · cases takenS ws with
      | none => exact hn
      | some x => exact setF_len.trans hn
    · have s7 : Same H H5 := fun b u hb => by
        have hbl : b ≠ l := fun z => by
          rw [z, nl] at hb
          cases hb
        rw [f5 b hbl]
        exact s6 b u hb
      exact ⟨_, rfl, l, _, rfl, .inl ⟨SqL.of e5, fun p np => q p _ (s7.trans (same_new np)) upd_same⟩⟩
end
end K10
set_option Elab.async false
set_option linter.all false
set_option maxRecDepth 100000
set_option maxHeartbeats 4000000
/-! Spots and samples as words tell them. -/
namespace Er
open PySem PySem.Spec PyProof.Rows L2
def spotB (vn : List Str) (many : Int) (o : Option Int) : List Str → Bool
  | [k] => decide (k = ("by" : Str)) && inO o 0 (many - 1)
  | [k, a] => decide (k = ("in" : Str)) && (decide (a ∈ vn) && inO o 1 many)
  | _ => false
def spSpot (K : PySem.W.Frag) : Sp := fun vs H Q _ => ∃ a b ws o vn many, vs = [.ref a, .ref b, .int many] ∧ SqT K H a (wv ws o) ∧ SqT K H b (sV vn) ∧ Q (.bl (spotB vn many o ws)) H
/-- a sample as a line tells it: none, or its word, its number, the spot's words, the spot's number -/
abbrev SampT := Option (Str × Option Int × List Str × Option Int)
def SampV (K : PySem.W.Frag) (H : Hp) (v : V) : SampT → Prop
  | none => v = .non
  | some (k, o1, ws, o2) => ∃ a b, v = .ref a ∧ SqT K H a [.str k, optV o1, .ref b] ∧ SqT K H b (wv ws o2)
theorem SampV.same {K : PySem.W.Frag} {H H' : Hp} {v : V} {z : SampT} (s : Same H H') (h : SampV K H v z) : SampV K H' v z := by
  rcases z with _ | ⟨k, o1, ws, o2⟩
  · exact h
  · obtain ⟨a, b, e, h1, h2⟩ := h
    exact ⟨a, b, e, sameT s h1, sameT s h2⟩
def sampB (vn : List Str) (many : Int) : SampT → Bool
  | none => false
  | some (k, o1, ws, o2) => decide (k ∈ (["is", "least", "most"] : List Str)) && (inO o1 0 9999 && spotB vn many o2 ws)
def spSamp (K : PySem.W.Frag) : Sp := fun vs H Q _ => ∃ v b z vn many, vs = [v, .ref b, .int many] ∧ SampV K H v z ∧ SqT K H b (sV vn) ∧ ∀ H', Same H H' → Q (.bl (sampB vn many z)) H'
end Er
set_option Elab.async false
set_option linter.all false
set_option maxRecDepth 100000
set_option maxHeartbeats 4000000
namespace K10
open PySem PySem.Spec PyProof.Rows L2 Er
section
variable {P : Program} {w : World} {K : PySem.W.Frag} {mg : Str → Option Value} {base : Heap} {f : Addr} {fd : FuncData}
theorem sc_is_spot : FnScope ["value", "vessels", "many"] ["value", "vessels", "many"] (defScope s_is_spot) := ⟨rfl, rfl, rfl, by decide +kernel, rfl, by decide +kernel, by decide +kernel⟩
theorem ok_is_spot (T : Tx K mg) (F : FunD K "is_spot" "is_spot" (defArgs s_is_spot) (defBody s_is_spot) (defScope s_is_spot) [] [] f fd) {fdW : FuncData} (GWi : FnOk P w K mg base CX0 2 (He.ga K "is_within") fdW ["value", "low", "high"] (spWithin K)) (GWiF : FnT K "is_within" s_is_within fdW) (GWiB : Binds K fdW ["value", "low", "high"] []) : FnOk P w K mg base CX0 3 f fd ["value", "vessels", "many"] (spSpot K) := by
  refine F.ok sc_is_spot (fun vs H Q E h => ?_) (fun cdv A outer s H vs Q E hr h => ?_)
  · obtain ⟨a, b, ws, o, vn, many, rfl, _⟩ := h
    rfl
  · obtain ⟨a, b, ws, o, vn, many, rfl, hT, hV, q⟩ := h
    have hr_GWi := hr
    refine ⟨_, (pss_cons (ps_if (pt_not (pt_val (pe_callB call_isi (by rfl) (T.fr "isinstance" (mem_at 7 rfl)) (by decide +kernel) (pa_cons (pv 0) (pa_cons (pe_bltn (v := .ty "tuple") (by rfl) (T.fr "tuple" (mem_at 17 rfl)) (by decide +kernel) rfl) pa_nil)))))
        (pss_one (ps_ret pe_bl))
        pss_nil)
      (pss_cons (ps_if (pt_cmpR op_eq (pe_callB call_len_seq (by rfl) (T.fr "len" (mem_at 8 rfl)) PySem.boot_len (pa_cons (pv 0) pa_nil)) pe_int (nomark _))
        (pss_one (ps_ret (pe_and (pe_cmpR op_eq (pe_ix ix_tup (pv 0) pe_int (fun _ _ => rfl)) pe_str (nomark _)) (pe_one (pe_call GWi hr_GWi (by rfl) (T.gd "is_within" (mem_at 2 rfl)) GWiF.kp GWiB .nil pass0 (pa_cons (pe_ix ix_tup (pv 0) pe_int (fun _ _ => rfl)) (pa_cons pe_int (pa_cons (pe_op op_sub (pv 2) pe_int) pa_nil))))))))
        pss_nil)
      (pss_cons (ps_if (pt_cmpR op_eq (pe_callB call_len_seq (by rfl) (T.fr "len" (mem_at 8 rfl)) PySem.boot_len (pa_cons (pv 0) pa_nil)) pe_int (nomark _))
        (pss_one (ps_ret (pe_and (pe_cmpR op_eq (pe_ix ix_tup (pv 0) pe_int (fun _ _ => rfl)) pe_str (nomark _)) (pe_and (pe_cmpR op_in_seq (pe_ix ix_tup (pv 0) pe_int (fun _ _ => rfl)) (pv 1) (by rfl)) (pe_one (pe_call GWi hr_GWi (by rfl) (T.gd "is_within" (mem_at 2 rfl)) GWiF.kp GWiB .nil pass0 (pa_cons (pe_ix ix_tup (pv 0) pe_int (fun _ _ => rfl)) (pa_cons pe_int (pa_cons (pv 2) pa_nil)))))))))
        pss_nil)
      (pss_one (ps_ret pe_bl))))), ?_⟩
    have sh : Sh K H (.ref a) (.tuple (ws.map PyData.str ++ [optD o])) := .tup hT (shAll_wv ws o)
    refine i_if0 (i_not (i_B (i_isi rfl sh (isK_tuple _) ⟨_, rfl, ?_⟩)))
    refine iteF (i_if0 (i_test (i_op (i_cb (i_cons (i_var rfl (i_nil ⟨a, _, rfl, .inr hT, i_c (r_eqI ⟨_, rfl, ?_⟩)⟩)))))))
    rw [wv_len]
    rcases ws with _ | ⟨k, _ | ⟨a1, _ | ⟨b1, r⟩⟩⟩
    · refine iteF (i_if0 (i_test (i_op (i_cb (i_cons (i_var rfl (i_nil ⟨a, _, rfl, .inr hT, i_c (r_eqI ⟨_, rfl, ?_⟩)⟩)))))))
      exact iteF q
    · refine iteT (i_ret (i_andV (i_op ⟨_, rfl, i_c (r_ixT hT rfl (i_c (r_eqS ⟨_, rfl, ite2 (fun e => ?_) (fun e => ?_)⟩)))⟩)))
      · refine i_call (i_cons ⟨_, rfl, i_c (r_ixT hT rfl (i_cons (i_c (i_cons (i_op ⟨_, rfl, i_c ⟨many, 1, rfl, rfl, i_nil ⟨_, _, 0, many - 1, rfl, sh_opt o, ?_⟩⟩⟩)))))⟩)
        have g : spotB vn many o [k] = isWithinD (optD o) 0 (many - 1) := by
          show (decide (k = ("by" : Str)) && inO o 0 (many - 1)) = _
          rw [e, Bool.true_and]
          rfl
        rw [g] at q
        exact q
      · have g : spotB vn many o [k] = false := by
          show (decide (k = ("by" : Str)) && inO o 0 (many - 1)) = _
          rw [Bool.eq_false_iff.mpr e, Bool.false_and]
        rw [g] at q
        exact q
    · refine iteF (i_if0 (i_test (i_op (i_cb (i_cons (i_var rfl (i_nil ⟨a, _, rfl, .inr hT, i_c (r_eqI ⟨_, rfl, ?_⟩)⟩)))))))
      refine iteT (i_ret (i_andV (i_op ⟨_, rfl, i_c (r_ixT hT rfl (i_c (r_eqS ⟨_, rfl, ite2 (fun e => ?_) (fun e => ?_)⟩)))⟩)))
      · refine i_andV (i_op ⟨_, rfl, i_c (r_ixT hT rfl ⟨_, rfl, r_in (.inr hV) rfl (flat_sV vn) (inV_sV a1 vn) ⟨_, rfl, ite2 (fun e2 => ?_) (fun e2 => ?_)⟩⟩)⟩)
        · refine i_call (i_cons ⟨_, rfl, i_c (r_ixT hT rfl (i_cons (i_c (i_cons ⟨_, rfl, i_nil ⟨_, _, 1, many, rfl, sh_opt o, ?_⟩⟩))))⟩)
          have g : spotB vn many o [k, a1] = isWithinD (optD o) 1 many := by
            show (decide (k = ("in" : Str)) && (decide (a1 ∈ vn) && inO o 1 many)) = _
            rw [e, e2, Bool.true_and, Bool.true_and]
            rfl
          rw [g] at q
          exact q
        · have g : spotB vn many o [k, a1] = false := by
            show (decide (k = ("in" : Str)) && (decide (a1 ∈ vn) && inO o 1 many)) = _
            rw [e, Bool.eq_false_iff.mpr e2, Bool.false_and, Bool.and_false]
          rw [g] at q
          exact q
      · have g : spotB vn many o [k, a1] = false := by
          show (decide (k = ("in" : Str)) && (decide (a1 ∈ vn) && inO o 1 many)) = _
          rw [Bool.eq_false_iff.mpr e, Bool.false_and]
        rw [g] at q
        exact q
    · have e1 : decide (((((k :: a1 :: b1 :: r).length + 1 : Nat)) : Int) = 2) = false := decide_eq_false (by simp only [List.length_cons]; omega)
      have e2 : decide (((((k :: a1 :: b1 :: r).length + 1 : Nat)) : Int) = 3) = false := decide_eq_false (by simp only [List.length_cons]; omega)
      rw [e1]
      refine iteF (i_if0 (i_test (i_op (i_cb (i_cons (i_var rfl (i_nil ⟨a, _, rfl, .inr hT, i_c (r_eqI ⟨_, rfl, ?_⟩)⟩)))))))
      rw [wv_len, e2]
      exact iteF q
theorem sc_is_sample : FnScope ["value", "vessels", "many"] ["value", "vessels", "many"] (defScope s_is_sample) := ⟨rfl, rfl, rfl, by decide +kernel, rfl, by decide +kernel, by decide +kernel⟩
theorem ok_is_sample (T : Tx K mg) (F : FunD K "is_sample" "is_sample" (defArgs s_is_sample) (defBody s_is_sample) (defScope s_is_sample) [] [] f fd) {fdW : FuncData} (GWi : FnOk P w K mg base CX0 2 (He.ga K "is_within") fdW ["value", "low", "high"] (spWithin K)) (GWiF : FnT K "is_within" s_is_within fdW) (GWiB : Binds K fdW ["value", "low", "high"] []) {fdS : FuncData} (GSp : FnOk P w K mg base CX0 3 (He.ga K "is_spot") fdS ["value", "vessels", "many"] (spSpot K)) (GSpF : FnT K "is_spot" s_is_spot fdS) (GSpB : Binds K fdS ["value", "vessels", "many"] []) : FnOk P w K mg base CX0 4 f fd ["value", "vessels", "many"] (spSamp K) := by
  refine F.ok sc_is_sample (fun vs H Q E h => ?_) (fun cdv A outer s H vs Q E hr h => ?_)
  · obtain ⟨v, b, z, vn, many, rfl, _⟩ := h
    rfl
  · obtain ⟨v, b, z, vn, many, rfl, hz, hV, q⟩ := h
    have hr_GWi := hr.mono (by decide : 2 ≤ 3)
    have hr_GSp := hr
    refine ⟨_, (pss_cons (ps_if (PW.pt (pw_or (pt_not (pt_val (pe_callB call_isi (by rfl) (T.fr "isinstance" (mem_at 7 rfl)) (by decide +kernel) (pa_cons (pv 0) (pa_cons (pe_bltn (v := .ty "tuple") (by rfl) (T.fr "tuple" (mem_at 17 rfl)) (by decide +kernel) rfl) pa_nil))))) (pw_or (pt_cmpR op_ne (pe_callB call_len_seq (by rfl) (T.fr "len" (mem_at 8 rfl)) PySem.boot_len (pa_cons (pv 0) pa_nil)) pe_int (nomark _)) (pw_or1 (pt_cmpR op_notIn_seq (pe_ix ix_tup (pv 0) pe_int (fun _ _ => rfl)) (pe_tup (pa_cons pe_str (pa_cons pe_str (pa_cons pe_str pa_nil)))) (by rfl))))))
        (pss_one (ps_ret pe_bl))
        pss_nil)
      (pss_one (ps_ret (pe_and (pe_call GWi hr_GWi (by rfl) (T.gd "is_within" (mem_at 2 rfl)) GWiF.kp GWiB .nil pass0 (pa_cons (pe_ix ix_tup (pv 0) pe_int (fun _ _ => rfl)) (pa_cons pe_int (pa_cons (pe_glob (v := .int 9999) (by rfl) (Exists.choose_spec T.int_MOST_NUMBER) ⟨_, rfl⟩) pa_nil)))) (pe_one (pe_call GSp hr_GSp (by rfl) (T.gd "is_spot" (mem_at 10 rfl)) GSpF.kp GSpB .nil pass0 (pa_cons (pe_ix ix_tup (pv 0) pe_int (fun _ _ => rfl)) (pa_cons (pv 1) (pa_cons (pv 2) pa_nil))))))))), ?_⟩
    rcases z with _ | ⟨k, o1, ws, o2⟩
    · cases (show v = .non from hz)
      refine i_if0 (i_or (i_not (i_B (i_isi rfl (.non : Sh K H .non .none) (isK_tuple _) ⟨_, rfl, ?_⟩))))
      exact iteT (iteT (q _ (Same.refl _)))
    · obtain ⟨a, c, rfl, hA, hC⟩ := hz
      have sh : Sh K H (.ref a) (.tuple [.str k, optD o1, .tuple (ws.map PyData.str ++ [optD o2])]) := .tup hA (.cons (.str k) (.cons (sh_opt o1) (.cons (.tup hC (shAll_wv ws o2)) .nil)))
      refine i_if0 (i_or (i_not (i_B (i_isi rfl sh (isK_tuple _) ⟨_, rfl, ?_⟩))))
      refine iteF (i_or (i_test (i_op (i_cb (i_cons (i_var rfl (i_nil ⟨a, _, rfl, .inr hA, i_c ⟨rfl, _, rfl, ?_⟩⟩)))))))
      refine iteF (i_test (i_op ⟨_, rfl, i_c (r_ixT hA rfl (i_tup3 fun p np => r_nin (.inr (SqT.of upd_same)) rfl rfl (inV_sV k ["is", "least", "most"]) ⟨_, rfl, ite2 (fun e => ?_) (fun e => ?_)⟩))⟩))
      · have g : sampB vn many (some (k, o1, ws, o2)) = false := by
          show (decide (k ∈ (["is", "least", "most"] : List Str)) && _) = false
          rw [bn e, Bool.false_and]
        have z := q _ (same_new (o := .tup (sV ["is", "least", "most"])) np)
        rw [g] at z
        exact z
      · have s1 : Same H (upd H p (.tup (sV ["is", "least", "most"]))) := same_new np
        have z := q _ s1
        have g : sampB vn many (some (k, o1, ws, o2)) = (inO o1 0 9999 && spotB vn many o2 ws) := by
          show (decide (k ∈ (["is", "least", "most"] : List Str)) && _) = _
          rw [bt e, Bool.true_and]
        rw [g] at z
        refine i_ret (i_andV (i_call (i_cons ⟨_, rfl, i_c (r_ixT (sameT s1 hA) rfl (i_cons (i_c (i_cons (i_c (i_nil ⟨_, _, 0, 9999, rfl, sh_opt o1, ⟨_, rfl, ite2 (fun e2 => ?_) (fun e2 => ?_)⟩⟩))))))⟩)))
        · refine i_call (i_cons ⟨_, rfl, i_c (r_ixT (sameT s1 hA) rfl (i_cons ⟨_, rfl, i_cons ⟨_, rfl, i_nil ⟨c, b, ws, o2, vn, many, rfl, sameT s1 hC, sameT s1 hV, ?_⟩⟩⟩))⟩)
          rw [show inO o1 0 9999 = true from e2, Bool.true_and] at z
          exact z
        · rw [show inO o1 0 9999 = false from Bool.eq_false_iff.mpr e2, Bool.false_and] at z
          exact z
end
end K10
set_option Elab.async false
set_option linter.all false
set_option maxRecDepth 100000
set_option maxHeartbeats 4000000
/-! Lines: their words, joined anew as tuples. -/
namespace Er
open PySem PySem.Spec PyProof.Rows L2
/-- t + u of tuples, t empty or not -/
def rCatE (K : PySem.W.Frag) : R2 := fun x y H Q => ∃ a b xs ys, x = .ref a ∧ y = .ref b ∧ SqT K H a xs ∧ SqT K H b ys ∧ xs.length + ys.length ≤ sizeLine ∧ (xs = [] → Q (.ref b) H) ∧ (xs ≠ [] → ys = [] → Q (.ref a) H) ∧ (xs ≠ [] → ys ≠ [] → ∀ p, H p = none → Q (.ref p) (upd H p (.tup (xs ++ ys))))
theorem op_catE {X : Cx} : OpR X (binaryOp .Add) (rCatE X.K) := by
  intro pins s σ H x y v u Q I rx ry h
  obtain ⟨a, b, xs, ys, rfl, rfl, ha, hb, hz, q0, q1, q2⟩ := h
  cases rx
  cases ry
  obtain ⟨its, r1, p1, _⟩ := I.tuple ha
  obtain ⟨its2, r2, p2, _⟩ := I.tuple hb
  by_cases hx : xs = []
  · have hv : its = [] := r1.nil_iff.mpr hx
    obtain ⟨⟨cls, dd, data, sl⟩, ho, hc, n, hd⟩ := id p1
    obtain ⟨⟨cls2, dd2, data2, sl2⟩, ho2, hc2, n2, hd2⟩ := id p2
    simp only at hc hd hc2 hd2
    subst hc hd hc2 hd2
    exact concat_meets ⟨_, ho, rfl⟩ ⟨_, ho2, rfl⟩ noFill_tuple_add seq_tuple_add PySem.F.slot_tuple_add PySem.F.entry_tuple_add (PySem.F.args_tuple_add_2 _ _)
      (tuple_addW0 a b its.toArray its2.toArray n n2 dd dd2 sl sl2 (by simp [hv])) ⟨ho, ho2, ⟨.ref b, H, I, rfl, q0 hx⟩⟩
  · refine HT.cat_tup p1 p2 (fun z => hx (r1.nil_iff.mp z)) (fun z => ⟨.ref a, H, I, rfl, q1 hx (r2.nil_iff.mp z)⟩) (fun z => ?_) (by rw [← r1.length, ← r2.length]; exact hz)
    refine ⟨.ref s.heap.objs.size, _, I.laid (t' := s.toks) (o := .tup (xs ++ ys)) (fun b ob q => Heap.get?_push_of_some _ q) (Nat.le_refl _) ?_, rfl, q2 hx (fun w => z (r2.nil_iff.mpr w)) _ (I.hok.fresh (Nat.le_refl _))⟩
    exact ⟨by rw [List.length_append]; exact hz, _, r1.append r2, IsTup.new _ _⟩
theorem six_last (n : Nat) : HT.sIx (n + 1) (n + 1) (some (-1)) = n := by
  show (if (-1 : Int) < 0 then (-1 + ((n + 1 : Nat) : Int)).toNat else min (-1 : Int).toNat (n + 1)) = n
  rw [if_pos (by decide)]
  omega
theorem cut_init (xs : List V) (l : V) : cutV (xs ++ [l]) none (some (-1)) = xs := by
  unfold cutV
  rw [List.length_append, show [l].length = 1 from rfl, six_last]
  show List.take (xs.length - 0) (List.drop 0 (xs ++ [l])) = xs
  rw [Nat.sub_zero, List.drop_zero, List.take_left]
theorem cut_mid (a b : V) (xs : List V) (l : V) : cutV (a :: b :: (xs ++ [l])) (some 2) (some (-1)) = xs := by
  unfold cutV
  have e : (a :: b :: (xs ++ [l])).length = (xs.length + 2) + 1 := by simp
  rw [e, six_last]
  have e2 : HT.sIx (xs.length + 2 + 1) 0 (some 2) = 2 := by
    show (if (2 : Int) < 0 then (2 + ((xs.length + 2 + 1 : Nat) : Int)).toNat else min 2 (xs.length + 2 + 1)) = 2
    rw [if_neg (by decide)]
    omega
  rw [e2]
  show List.take (xs.length + 2 - 2) (xs ++ [l]) = xs
  rw [Nat.add_sub_cancel, List.take_left]
theorem at_last (xs : List V) (l : V) : atI (xs ++ [l]) (-1) = some l := by
  unfold atI ixN
  have e : (xs ++ [l]).length = xs.length + 1 := by simp
  rw [e, if_neg (by decide), if_pos (by omega)]
  show (xs ++ [l])[(-1 + ((xs.length + 1 : Nat) : Int)).toNat]? = some l
  rw [show (-1 + ((xs.length + 1 : Nat) : Int)).toNat = xs.length by omega, List.getElem?_append_right (Nat.le_refl _), Nat.sub_self]
  rfl
theorem at_0 (a : V) (xs : List V) : atI (a :: xs) 0 = some a := by
  unfold atI ixN
  rw [if_pos (by decide), if_pos (by simp only [List.length_cons]; omega)]
  rfl
theorem at_1 (a b : V) (xs : List V) : atI (a :: b :: xs) 1 = some b := by
  unfold atI ixN
  rw [if_pos (by decide), if_pos (by simp only [List.length_cons]; omega)]
  rfl
/-- the words of a line -/
def LineW (x : Str) (init : List Str) (last : Str) : Prop := Txt.split x " " = init ++ [last] ∧ x.length ≤ 100000 ∧ last.length ≤ 500 ∧ init.length ≤ 1000 ∧ ∀ w ∈ init, w.length ≤ 500
def sampOf (init : List Str) (last : Str) : SampT := match init with
  | k :: n :: mid => some (k, intOfS n, mid, intOfS last)
  | _ => none
def spStepIn (K : PySem.W.Frag) : Sp := fun vs H Q _ => ∃ x init last, vs = [.str x] ∧ LineW x init last ∧ ∀ p H', Same H H' → SqT K H' p (wv init (intOfS last)) → Q (.ref p) H'
def spSampIn (K : PySem.W.Frag) : Sp := fun vs H Q _ => ∃ x init last, vs = [.str x] ∧ LineW x init last ∧ ∀ v H', Same H H' → SampV K H' v (sampOf init last) → Q v H'
end Er
set_option Elab.async false
set_option linter.all false
set_option maxRecDepth 100000
set_option maxHeartbeats 4000000
namespace K10
open PySem PySem.Spec PyProof.Rows L2 Er
section
variable {P : Program} {w : World} {K : PySem.W.Frag} {mg : Str → Option Value} {base : Heap} {f : Addr} {fd : FuncData}
theorem sc_step_in : FnScope ["line", "words"] ["line"] (defScope s_step_in) := ⟨rfl, rfl, rfl, by decide +kernel, rfl, by decide +kernel, by decide +kernel⟩
theorem ok_step_in (T : Tx K mg) (F : FunD K "step_in" "step_in" (defArgs s_step_in) (defBody s_step_in) (defScope s_step_in) [] [] f fd) {fdI : FuncData} (GIo : FnOk P w K mg base CX0 1 (He.ga K "integer_of") fdI ["word"] spIntOf) (GIoF : FnT K "integer_of" s_integer_of fdI) (GIoB : Binds K fdI ["word"] []) : FnOk P w K mg base CX0 2 f fd ["line"] (spStepIn K) := by
  refine F.ok sc_step_in (fun vs H Q E h => ?_) (fun cdv A outer s H vs Q E hr h => ?_)
  · obtain ⟨x, init, last, rfl, _⟩ := h
    rfl
  · obtain ⟨x, init, last, rfl, ⟨hw, hx, hl, hi, _⟩, q⟩ := h
    have hr_GIo := hr
    refine ⟨_, (pss_cons (ps_set (i := 1) sc_step_in.nd rfl (Or.inl rfl) (pe_split (pv 0) pe_str))
      (pss_one (ps_ret (pe_op op_catE (pe_callTy call_tuple_of (by rfl) (T.fr "tuple" (mem_at 17 rfl)) (by decide +kernel) (pa_cons (pe_slice sl_list (pv 1) po_none (po_some (pe_un un_neg pe_int))) pa_nil)) (pe_tup (pa_cons (pe_call GIo hr_GIo (by rfl) (T.gd "integer_of" (mem_at 5 rfl)) GIoF.kp GIoB .nil pass0 (pa_cons (pe_ix ix_list (pv 1) (pe_un un_neg pe_int) (fun _ _ => rfl)) pa_nil)) pa_nil)))))), ?_⟩
    refine i_set ⟨_, rfl, ⟨x, rfl⟩, x, (" " : Str), rfl, rfl, by decide +kernel, Nat.le_trans (Nat.add_le_add_right hx 2) (by decide), fun p np => ?_⟩
    have s1 : Same H (upd H p (.lst (sV init ++ [V.str last]))) := same_new np
    have e1 : (Txt.split x (" " : Str)).map V.str = sV init ++ [V.str last] := by
      rw [hw, List.map_append]
      rfl
    rw [e1]
    have hil : (sV init).length = init.length := List.length_map ..
    refine i_ret (i_op (i_cb (i_cons ⟨_, rfl, 1, rfl, -1, rfl, p, sV init ++ [V.str last], rfl, SqL.of upd_same, fun p2 np2 => ?_⟩)))
    rw [cut_init]
    have s2 := s1.trans (same_new (o := .lst (sV init)) np2)
    refine i_nil ⟨p2, sV init, rfl, .inl ⟨SqL.of upd_same, fun p3 np3 => ?_⟩⟩
    have hp : upd (upd H p (.lst (sV init ++ [V.str last]))) p2 (.lst (sV init)) p = some (.lst (sV init ++ [V.str last])) := same_new np2 _ _ upd_same
    have s3 := s2.trans (same_new (o := .tup (sV init)) np3)
    refine i_tup (i_cons (i_call (i_cons ⟨_, rfl, 1, rfl, p, _, -1, _, rfl, rfl, SqL.of (same_new np3 _ _ hp), at_last _ _, ?_⟩)))
    refine i_nil ⟨last, rfl, hl, fun H4 s4 => i_nil ⟨by show 1 ≤ sizeLine; decide, fun p4 np4 => ?_⟩⟩
    have s5 := s3.trans s4
    have s6 := s5.trans (same_new (o := .tup [optV (intOfS last)]) np4)
    refine ⟨p3, p4, sV init, [optV (intOfS last)], rfl, rfl, SqT.of (same_new np4 _ _ (s4 _ _ upd_same)), SqT.of upd_same, ?_, fun z => ?_, fun _ z => (by cases z), fun _ _ p5 np5 => ?_⟩
    · rw [hil]
      exact Nat.le_trans (Nat.add_le_add_right hi 1) (by decide)
    · refine q _ _ s6 (SqT.of ?_)
      have e : wv init (intOfS last) = [optV (intOfS last)] := by
        unfold wv
        rw [z]
        rfl
      rw [e, upd_same]
    · exact q _ _ (s6.trans (same_new np5)) (SqT.of upd_same)
theorem sc_sample_in : FnScope ["line", "words"] ["line"] (defScope s_sample_in) := ⟨rfl, rfl, rfl, by decide +kernel, rfl, by decide +kernel, by decide +kernel⟩
theorem ok_sample_in (T : Tx K mg) (F : FunD K "sample_in" "sample_in" (defArgs s_sample_in) (defBody s_sample_in) (defScope s_sample_in) [] [] f fd) {fdI : FuncData} (GIo : FnOk P w K mg base CX0 1 (He.ga K "integer_of") fdI ["word"] spIntOf) (GIoF : FnT K "integer_of" s_integer_of fdI) (GIoB : Binds K fdI ["word"] []) : FnOk P w K mg base CX0 2 f fd ["line"] (spSampIn K) := by
  refine F.ok sc_sample_in (fun vs H Q E h => ?_) (fun cdv A outer s H vs Q E hr h => ?_)
  · obtain ⟨x, init, last, rfl, _⟩ := h
    rfl
  · obtain ⟨x, init, last, rfl, ⟨hw, hx, hl, hi, hall⟩, q⟩ := h
    have hr_GIo := hr
    refine ⟨_, (pss_cons (ps_set (i := 1) sc_sample_in.nd rfl (Or.inl rfl) (pe_split (pv 0) pe_str))
      (pss_cons (ps_if (pt_cmpR op_lt (pe_callB call_len_seq (by rfl) (T.fr "len" (mem_at 8 rfl)) PySem.boot_len (pa_cons (pv 1) pa_nil)) pe_int (nomark _))
        (pss_one (ps_ret pe_non))
        pss_nil)
      (pss_one (ps_ret (pe_tup (pa_cons (pe_ix ix_list (pv 1) pe_int (fun _ _ => rfl)) (pa_cons (pe_call GIo hr_GIo (by rfl) (T.gd "integer_of" (mem_at 5 rfl)) GIoF.kp GIoB .nil pass0 (pa_cons (pe_ix ix_list (pv 1) pe_int (fun _ _ => rfl)) pa_nil)) (pa_cons (pe_op op_catE (pe_callTy call_tuple_of (by rfl) (T.fr "tuple" (mem_at 17 rfl)) (by decide +kernel) (pa_cons (pe_slice sl_list (pv 1) (po_some pe_int) (po_some (pe_un un_neg pe_int))) pa_nil)) (pe_tup (pa_cons (pe_call GIo hr_GIo (by rfl) (T.gd "integer_of" (mem_at 5 rfl)) GIoF.kp GIoB .nil pass0 (pa_cons (pe_ix ix_list (pv 1) (pe_un un_neg pe_int) (fun _ _ => rfl)) pa_nil)) pa_nil))) pa_nil)))))))), ?_⟩
    refine i_set ⟨_, rfl, ⟨x, rfl⟩, x, (" " : Str), rfl, rfl, by decide +kernel, Nat.le_trans (Nat.add_le_add_right hx 2) (by decide), fun p np => ?_⟩
    have s1 : Same H (upd H p (.lst (sV init ++ [V.str last]))) := same_new np
    have e1 : (Txt.split x (" " : Str)).map V.str = sV init ++ [V.str last] := by
      rw [hw, List.map_append]
      rfl
    rw [e1]
    refine i_if0 (i_test (i_op (i_cb (i_cons (i_var rfl (i_nil ⟨p, _, rfl, .inl (SqL.of upd_same), i_c ⟨_, _, rfl, rfl, _, rfl, ?_⟩⟩))))))
    rcases init with _ | ⟨k, _ | ⟨n, mid⟩⟩
    · exact iteT (q _ _ s1 rfl)
    · exact iteT (q _ _ s1 rfl)
    · have el : decide (((sV (k :: n :: mid) ++ [V.str last]).length : Int) < 3) = false := decide_eq_false (by
        rw [List.length_append]
        show ¬ (((V.str k :: V.str n :: sV mid).length + 1 : Nat) : Int) < 3
        simp only [List.length_cons]
        omega)
      rw [el]
      have hn : n.length ≤ 500 := hall n (List.mem_cons_of_mem _ (List.mem_cons_self ..))
      have hm : (sV mid).length = mid.length := List.length_map ..
      have hi2 : mid.length ≤ 1000 := by
        simp only [List.length_cons] at hi
        omega
      refine iteF (i_ret (i_tup (i_cons ⟨_, rfl, i_c ⟨p, _, 0, _, rfl, rfl, SqL.of upd_same, at_0 _ _, ?_⟩⟩)))
      refine i_cons (i_call (i_cons ⟨_, rfl, i_c ⟨p, _, 1, _, rfl, rfl, SqL.of upd_same, at_1 _ _ _, i_nil ⟨n, rfl, hn, fun H2 s2 => ?_⟩⟩⟩))
      have hp2 : H2 p = some (.lst (sV (k :: n :: mid) ++ [V.str last])) := s2 _ _ upd_same
      refine i_cons (i_op (i_cb (i_cons ⟨_, rfl, 2, rfl, 1, rfl, -1, rfl, p, _, rfl, SqL.of hp2, fun p2 np2 => ?_⟩)))
      have ec : cutV (sV (k :: n :: mid) ++ [V.str last]) (some 2) (some (-1)) = sV mid := cut_mid _ _ _ _
      rw [ec]
      have s3 := (s1.trans s2).trans (same_new (o := .lst (sV mid)) np2)
      refine i_nil ⟨p2, sV mid, rfl, .inl ⟨SqL.of upd_same, fun p3 np3 => ?_⟩⟩
      have s4 := s3.trans (same_new (o := .tup (sV mid)) np3)
      have hp3 := same_new (o := .tup (sV mid)) np3 _ _ (same_new (o := .lst (sV mid)) np2 _ _ hp2)
      refine i_tup (i_cons (i_call (i_cons ⟨_, rfl, 1, rfl, p, _, -1, _, rfl, rfl, SqL.of hp3, at_last _ _, ?_⟩)))
      refine i_nil ⟨last, rfl, hl, fun H4 s5 => i_nil ⟨by show 1 ≤ sizeLine; decide, fun p4 np4 => ?_⟩⟩
      have s6 := (s4.trans s5).trans (same_new (o := .tup [optV (intOfS last)]) np4)
      refine ⟨p3, p4, sV mid, [optV (intOfS last)], rfl, rfl, SqT.of (same_new np4 _ _ (s5 _ _ upd_same)), SqT.of upd_same, ?_, fun z => ?_, fun _ z => (by cases z), fun _ _ p5 np5 => ?_⟩
      · rw [hm]
        exact Nat.le_trans (Nat.add_le_add_right hi2 1) (by decide)
      · refine i_nil ⟨by show 3 ≤ sizeLine; decide, fun p6 np6 => ?_⟩
        have e : wv mid (intOfS last) = [optV (intOfS last)] := by
          unfold wv
          rw [z]
          rfl
        refine q _ _ (s6.trans (same_new np6)) ⟨p6, p4, rfl, SqT.of upd_same, SqT.of (same_new np6 _ _ ?_)⟩
        rw [e, upd_same]
      · refine i_nil ⟨by show 3 ≤ sizeLine; decide, fun p6 np6 => ?_⟩
        exact q _ _ ((s6.trans (same_new np5)).trans (same_new np6)) ⟨p6, p5, rfl, SqT.of upd_same, SqT.of (same_new np6 _ _ upd_same)⟩
end
end K10
set_option Elab.async false
set_option linter.all false
set_option maxRecDepth 100000
set_option maxHeartbeats 4000000
/-! Steps in lists. -/
namespace Er
open PySem PySem.Spec PyProof.Rows L2
abbrev StepT := List Str × Option Int
def StepsAt (K : PySem.W.Frag) (H : Hp) (vs : List V) (st : List StepT) : Prop := vs.length = st.length ∧ ∀ (i : Nat) (s : StepT), st[i]? = some s → ∃ r, vs[i]? = some (.ref r) ∧ SqT K H r (wv s.1 s.2)
theorem StepsAt.same {K : PySem.W.Frag} {H H' : Hp} {vs : List V} {st : List StepT} (s : Same H H') (h : StepsAt K H vs st) : StepsAt K H' vs st := ⟨h.1, fun i z hz => let ⟨r, h1, h2⟩ := h.2 i z hz; ⟨r, h1, sameT s h2⟩⟩
def isDraw (st : List StepT) (i : Nat) : Bool := match st[i]? with
  | some (k :: _, _) => decide (k = ("draw" : Str))
  | _ => false
def drawnTo (st : List StepT) (n : Nat) : List Nat := (List.range n).filter (isDraw st)
theorem drawnTo_succ (st : List StepT) (n : Nat) : drawnTo st (n + 1) = drawnTo st n ++ if isDraw st n = true then [n] else [] := by
  unfold drawnTo
  rw [List.range_succ, List.filter_append, List.filter_cons, List.filter_nil]
theorem drawnTo_len (st : List StepT) (n : Nat) : (drawnTo st n).length ≤ n := by
  have z := List.length_filter_le (isDraw st) (List.range n)
  rwa [List.length_range] at z
def nV (ns : List Nat) : List V := ns.map fun (n : Nat) => V.int (n : Int)
def spDrawn (K : PySem.W.Frag) : Sp := fun vs H Q _ => ∃ a xs st, vs = [.ref a] ∧ SqL K H a xs ∧ StepsAt K H xs st ∧ st.length ≤ 1000 ∧ (∀ s ∈ st, s.1 ≠ []) ∧ ∀ p H', Same H H' → H' p = some (.lst (nV (drawnTo st st.length))) → Q (.ref p) H'
end Er
set_option Elab.async false
set_option linter.all false
set_option maxRecDepth 100000
set_option maxHeartbeats 4000000
namespace K10
open PySem PySem.Spec PyProof.Rows L2 Er
section
variable {P : Program} {w : World} {K : PySem.W.Frag} {mg : Str → Option Value} {base : Heap} {f : Addr} {fd : FuncData}
theorem sc_drawn : FnScope ["steps", "number", "step"] ["steps"] (defScope s_drawn) := ⟨rfl, rfl, rfl, by decide +kernel, rfl, by decide +kernel, by decide +kernel⟩
theorem ok_drawn (T : Tx K mg) (F : FunD K "drawn" "drawn" (defArgs s_drawn) (defBody s_drawn) (defScope s_drawn) [] [] f fd) : FnOk P w K mg base CX0 1 f fd ["steps"] (spDrawn K) := by
  refine F.ok sc_drawn (fun vs H Q E h => ?_) (fun cdv A outer s H vs Q E hr h => ?_)
  · obtain ⟨a, xs, st, rfl, _⟩ := h
    rfl
  · obtain ⟨a, xs, st, rfl, hL, hS, hz, hne, q⟩ := h
    refine ⟨_, PSs.nox (pss_one (ps_ret (pe_lc (own := [("number", 1), ("step", 2)]) (g := gTup K 2 (gCons (gName 1) (gCons (gName 2) gNil))) (tt := tTest (tOp rEq (tOp (rIxT K) (tVar 2) (tC (.int 0))) (tC (.str "draw")))) rfl sc_drawn.nd (pi_enum (by rfl) (T.fr "enumerate" (mem_at 5 rfl)) (pa_cons (pv 0) pa_nil)) (blkOk_by (N := ["steps", "number", "step"]) (sc := defScope s_drawn) (by decide +kernel)) (fun _ _ _ _ _ => pg_tup rfl (pgs_cons (pg_name (i := 1) sc_drawn.nd rfl (Or.inl rfl)) (pgs_cons (pg_name (i := 2) sc_drawn.nd rfl (Or.inl rfl)) pgs_nil))) (fun _ _ _ _ _ => (pts_one (pt_cmpR op_eq (pe_ix ix_tup (pv 2) pe_int (fun _ _ => rfl)) pe_str (nomark _)))) (fun _ _ _ _ _ => (pv 1))))), ?_⟩
    refine i_ret (i_lc (i_cons (i_var rfl (i_nil ⟨a, xs, rfl, hL, fun Dl nD => ?_⟩))))
    refine lr_it walk_enum (fun i H2 => Same H H2 ∧ H2 Dl = some (.lst (nV (drawnTo st i)))) ⟨same_new nD, upd_same⟩ (fun i H2 _ p => p.1.seq hL) (fun i x H2 H3 hi p y => ?_) (fun H2 p => q Dl H2 p.1 (by rw [← hS.1]; exact p.2))
    obtain ⟨s2, e2⟩ := p
    have hi2 : i < st.length := by rw [← hS.1]; exact hi
    have hst := List.getElem?_eq_getElem hi2
    obtain ⟨r, hr1, hr2⟩ := (hS.same s2).2 i _ hst
    obtain ⟨Tp, u, v, rfl, nT, rfl, hu, hv⟩ := y
    cases Option.some.inj hu
    have hv2 : v = .ref r := Option.some.inj ((show xs[i]? = some v from hv).symm.trans hr1)
    subst hv2
    have hwn := hne _ (List.getElem_mem hi2)
    generalize st[i] = sz at hr2 hwn hst
    obtain ⟨ws, o⟩ := sz
    rcases ws with _ | ⟨k, wr⟩
    · exact absurd rfl hwn
    have s3 : Same H2 (upd H2 Tp (.tup [.int (i : Nat), .ref r])) := same_new nT
    have eD : isDraw st i = decide (k = ("draw" : Str)) := by
      unfold isDraw
      rw [hst]
    refine ⟨Tp, _, rfl, SqT.of upd_same, rfl, _, _, rfl, ?_⟩
    refine ⟨_, _, rfl, rfl, rfl, ?_⟩
    refine i_test (i_op ⟨_, rfl, i_c (r_ixT (sameT s3 hr2) (at_0 _ _) (i_c (r_eqS ⟨_, rfl, ite2 (fun e => ?_) (fun e => ?_)⟩)))⟩)
    · have e3 := s3 _ _ e2
      have en : nV (drawnTo st i) ++ [V.int (i : Nat)] = nV (drawnTo st (i + 1)) := by
        rw [drawnTo_succ, eD, if_pos e]
        unfold nV
        rw [List.map_append]
        rfl
      refine ⟨_, rfl, _, e3, ?_, same_mut (s2.trans s3) nD, ?_⟩
      · unfold nV
        rw [List.length_map]
        exact Nat.lt_of_le_of_lt (Nat.le_trans (drawnTo_len st i) (by omega : i ≤ 1000)) (by decide)
      · rw [upd_same, en]
    · refine ⟨s2.trans s3, ?_⟩
      rw [s3 _ _ e2, drawnTo_succ, eD, if_neg e, List.append_nil]
end
end K10
set_option Elab.async false
set_option linter.all false
set_option maxRecDepth 100000
set_option maxHeartbeats 4000000
/-! min of a tuple of whole numbers. -/
namespace Er
open PySem PySem.Spec PyProof.Rows L2
theorem holdInts {h : Heap} : ∀ {ns : List Int} {us : List Value}, Vals (ns.map V.int) us → PySem.W.HoldAll h us ns
  | [], _, r => by
    cases r
    exact PySem.W.HoldAll.nil
  | n :: ns, _, r => by
    cases r with
    | cons r rr =>
      obtain ⟨t, rfl⟩ := r
      exact PySem.W.HoldAll.cons ⟨_, Reads.int n t⟩ (holdInts rr)
theorem holds_int {h : Heap} {v : Value} {n : Int} (H : PySem.W.Holds h v n) : ∃ t, v = .int n t := by
  obtain ⟨as, r⟩ := H
  have r2 : Reads h v (.int n) as := r
  cases r2
  exact ⟨_, rfl⟩
def rMinT (K : PySem.W.Frag) : List V → Hp → VK → Prop := fun vs H Q => ∃ (a : Addr) (x : Int) (xs : List Int), vs = [V.ref a] ∧ SqT K H a (iV (x :: xs)) ∧ Q (.int (PySem.W.minOf x xs)) H
theorem cr_minT {X : Cx} (hc : X.calm = true) (hu : X.A.units + 64 < cLine) : CallR X (.builtin "min") (rMinT X.K) := by
  intro pins s σ H vs us Q I r h
  obtain ⟨a, x, xs, rfl, hs, q⟩ := h
  obtain ⟨its, rv, p, _⟩ := I.tuple hs
  rw [Vals.ref1 r]
  refine PySem.W.min_tuple_datum (x := x) (xs := xs) (I.ok.hd hc) p (by simpa using holdInts (h := s.heap) rv) ?_ fun i v h' tk hi hv hk => ?_
  · show X.A.units + 1 + PySem.W.Datum.depth Int < cLine
    have e : PySem.W.Datum.depth Int = 0 := rfl
    rw [e]
    omega
  · obtain ⟨t, rfl⟩ := holds_int hv
    exact ⟨.int _, H, I.kept hk, ⟨_, rfl⟩, q⟩
theorem minOf_ge : ∀ (xs : List Int) (x : Int), (0 ≤ PySem.W.minOf x xs) ↔ (0 ≤ x ∧ ∀ y ∈ xs, 0 ≤ y)
  | [], x => by
    show 0 ≤ x ↔ _
    simp
  | y :: ys, x => by
    have e : PySem.W.minOf x (y :: ys) = PySem.W.minOf (if y < x then y else x) ys := by
      unfold PySem.W.minOf
      rw [List.foldl_cons]
      congr 1
      show (if decide (y < x) = true then y else x) = _
      by_cases h : y < x
      · rw [if_pos h, if_pos (decide_eq_true h)]
      · rw [if_neg h, if_neg (by rw [decide_eq_false h]; decide)]
    rw [e, minOf_ge ys]
    by_cases h : y < x
    · rw [if_pos h]
      constructor
      · rintro ⟨h1, h2⟩
        exact ⟨by omega, fun z hz => by rcases List.mem_cons.mp hz with rfl | hz; exact h1; exact h2 z hz⟩
      · rintro ⟨h1, h2⟩
        exact ⟨h2 y (List.mem_cons_self ..), fun z hz => h2 z (List.mem_cons_of_mem _ hz)⟩
    · rw [if_neg h]
      constructor
      · rintro ⟨h1, h2⟩
        exact ⟨h1, fun z hz => by rcases List.mem_cons.mp hz with rfl | hz; omega; exact h2 z hz⟩
      · rintro ⟨h1, h2⟩
        exact ⟨h1, fun z hz => h2 z (List.mem_cons_of_mem _ hz)⟩
end Er
set_option Elab.async false
set_option linter.all false
set_option maxRecDepth 100000
set_option maxHeartbeats 4000000
/-! The level behind a step. -/
namespace Er
open PySem PySem.Spec PyProof.Rows L2
theorem and_rest {t u : TT} {σ : L2.St} {H : Hp} {Qb : Bool → Hp → Prop} (c : Bool) (rest : ∀ H3, Same H H3 → Qb c H3) (go : ∀ Qb' : Bool → Hp → Prop, (∀ H3, Same H H3 → Qb' c H3) → tAnd t u σ H Qb') : tAnd t u σ H Qb := go _ rest
def isDrawW : List Str → Bool
  | k :: _ => decide (k = ("draw" : Str))
  | [] => false
def nextL (vn : List Str) (st : List StepT) (lv : List Int) (ws : List Str) (o : Option Int) : Option (List Int) :=
  if stepB vn o ws = true then
    if (isDrawW ws && decide ((9 : Int) ≤ (vn.length : Int) + ((drawnTo st st.length).length : Int))) = true then none
    else if 0 ≤ PySem.W.minOf ((movedL vn lv ws (o.getD 0)).headD 0) (movedL vn lv ws (o.getD 0)).tail then some (movedL vn lv ws (o.getD 0)) else none
  else none
def OptLev (K : PySem.W.Frag) (H : Hp) (v : V) : Option (List Int) → Prop
  | none => v = .non
  | some l => ∃ p, v = .ref p ∧ SqT K H p (iV l)
theorem movedL_len {vn : List Str} {ns : List Int} {ws : List Str} {m : Int} : (movedL vn ns ws m).length = ns.length := by
  unfold movedL
  have h1 : ∀ z, (takeL vn ns m z).length = ns.length := fun z => by
    cases z with
    | none => rfl
    | some x => exact setF_len
  have h2 : ∀ (l : List Int) z, (bringL vn l m z).length = l.length := fun l z => by
    cases z with
    | none => rfl
    | some x => exact setF_len
  rw [h2, h1]
def spNext (K : PySem.W.Frag) : Sp := fun vs H Q _ => ∃ a b c d vn xs st lv ws o, vs = [.ref a, .ref b, .ref c, .ref d] ∧ SqT K H a (sV vn) ∧ TupD K H a ∧ vn ≠ [] ∧ vn.length ≤ 1000 ∧ SqL K H b xs ∧ StepsAt K H xs st ∧ st.length ≤ 1000 ∧ (∀ s ∈ st, s.1 ≠ []) ∧
  SqT K H c (iV lv) ∧ lv.length = vn.length ∧ SqT K H d (wv ws o) ∧ ∀ v H', Same H H' → OptLev K H' v (nextL vn st lv ws o) → Q v H'
end Er
set_option Elab.async false
set_option linter.all false
set_option maxRecDepth 100000
set_option maxHeartbeats 4000000
namespace K10
open PySem PySem.Spec PyProof.Rows L2 Er
section
variable {P : Program} {w : World} {K : PySem.W.Frag} {mg : Str → Option Value} {base : Heap} {f : Addr} {fd : FuncData}
theorem sc_next_level : FnScope ["vessels", "steps", "level", "step", "behind"] ["vessels", "steps", "level", "step"] (defScope s_next_level) := ⟨rfl, rfl, rfl, by decide +kernel, rfl, by decide +kernel, by decide +kernel⟩
theorem ok_next_level (T : Tx K mg) (F : FunD K "next_level" "next_level" (defArgs s_next_level) (defBody s_next_level) (defScope s_next_level) [] [] f fd) {fdGSt : FuncData} (GSt : FnOk P w K mg base CX0 3 (He.ga K "is_step") fdGSt ["value", "vessels"] (spStep K)) (GStF : FnT K "is_step" s_is_step fdGSt) (GStB : Binds K fdGSt ["value", "vessels"] [])
    {fdGDr : FuncData} (GDr : FnOk P w K mg base CX0 1 (He.ga K "drawn") fdGDr ["steps"] (spDrawn K)) (GDrF : FnT K "drawn" s_drawn fdGDr) (GDrB : Binds K fdGDr ["steps"] [])
    {fdGMo : FuncData} (GMo : FnOk P w K mg base CX0 2 (He.ga K "moved_on") fdGMo ["vessels", "stand", "step", "much"] (spMoved K)) (GMoF : FnT K "moved_on" s_moved_on fdGMo) (GMoB : Binds K fdGMo ["vessels", "stand", "step", "much"] []) : FnOk P w K mg base CX0 4 f fd ["vessels", "steps", "level", "step"] (spNext K) := by
  refine F.ok sc_next_level (fun vs H Q E h => ?_) (fun cdv A outer s H vs Q E hr h => ?_)
  · obtain ⟨a, b, c, d, vn, xs, st, lv, ws, o, rfl, _⟩ := h
    rfl
  · obtain ⟨a, b, c, d, vn, xs, st, lv, ws, o, rfl, hA, hD, hn0, hn1, hB, hS, hz, hne, hC, hlv, hW, q⟩ := h
    have hr_GSt := hr
    have hr_GDr := hr.mono (by decide : 1 ≤ 3)
    have hr_GMo := hr.mono (by decide : 2 ≤ 3)
    refine ⟨_, PSs.nox (pss_cons (ps_if (pt_not (pt_val (pe_call GSt hr_GSt (by rfl) (T.gd "is_step" (mem_at 6 rfl)) GStF.kp GStB .nil pass0 (pa_cons (pv 3) (pa_cons (pv 0) pa_nil)))))
        (pss_one (ps_ret pe_non))
        pss_nil)
      (pss_cons (ps_if (PW.pt (pw_and (pt_cmpR op_eq (pe_ix ix_tup (pv 3) pe_int (fun _ _ => rfl)) pe_str (nomark _)) (pw_and1 (pt_cmpR op_ge (pe_op op_add (pe_callB call_len_seq (by rfl) (T.fr "len" (mem_at 8 rfl)) PySem.boot_len (pa_cons (pv 0) pa_nil)) (pe_callB call_len_seq (by rfl) (T.fr "len" (mem_at 8 rfl)) PySem.boot_len (pa_cons (pe_call GDr hr_GDr (by rfl) (T.gd "drawn" (mem_at 35 rfl)) GDrF.kp GDrB .nil pass0 (pa_cons (pv 1) pa_nil)) pa_nil))) (pe_glob (v := .int 9) (by rfl) (Exists.choose_spec T.int_MOST_ENDS) ⟨_, rfl⟩) (nomark _)))))
        (pss_one (ps_ret pe_non))
        pss_nil)
      (pss_cons (ps_set (i := 4) sc_next_level.nd rfl (Or.inl rfl) (pe_call GMo hr_GMo (by rfl) (T.gd "moved_on" (mem_at 9 rfl)) GMoF.kp GMoB .nil pass0 (pa_cons (pv 0) (pa_cons (pv 2) (pa_cons (pv 3) (pa_cons (pe_ix ix_tup (pv 3) (pe_un un_neg pe_int) (fun _ _ => rfl)) pa_nil))))))
      (pss_one (ps_ret (pe_ifExp (pt_cmpR op_ge (pe_callB (cr_minT rfl hr.units) (by rfl) (T.fr "min" (mem_at 11 rfl)) (by decide +kernel) (pa_cons (pv 4) pa_nil)) pe_int (nomark _)) (pv 4) pe_non)))))), ?_⟩
    refine i_if0 (i_not (i_B (i_call (i_cons (i_var rfl (i_cons (i_var rfl (i_nil ⟨d, a, ws, o, vn, rfl, hW, hA, fun H2 s2 => ⟨_, rfl, ?_⟩⟩))))))))
    cases hb : stepB vn o ws with
    | false =>
      have g : nextL vn st lv ws o = none := if_neg (by rw [hb]; decide)
      exact iteT (q _ _ s2 (by rw [g]; rfl))
    | true =>
      have hc := step_cases hb
      obtain ⟨⟨n, rfl, hn⟩, hws⟩ := hc
      have hk : ∃ k r, ws = k :: r := by
        rcases hws with ⟨y, hy, rfl | rfl | rfl⟩ | ⟨y, u, hy, hu, _, rfl⟩ <;> exact ⟨_, _, rfl⟩
      obtain ⟨k, r, rfl⟩ := hk
      refine iteF (i_if0 (and_rest (isDrawW (k :: r) && decide ((9 : Int) ≤ (vn.length : Int) + ((drawnTo st st.length).length : Int))) (fun H3 s3 => ?_) (fun Q' q' => ?_)))
      · have s4 := s2.trans s3
        cases hc : (isDrawW (k :: r) && decide ((9 : Int) ≤ (vn.length : Int) + ((drawnTo st st.length).length : Int))) with
        | true =>
          have g : nextL vn st lv (k :: r) (some n) = none := by
            unfold nextL
            rw [if_pos hb, if_pos hc]
          exact iteT (q _ _ s4 (by rw [g]; rfl))
        | false =>
          have g : nextL vn st lv (k :: r) (some n) = if 0 ≤ PySem.W.minOf ((movedL vn lv (k :: r) n).headD 0) (movedL vn lv (k :: r) n).tail then some (movedL vn lv (k :: r) n) else none := by
            unfold nextL
            rw [if_pos hb, if_neg (by rw [hc]; decide)]
            rfl
          refine iteF (i_set (i_call (i_cons (i_var rfl (i_cons (i_var rfl (i_cons (i_var rfl (i_cons ⟨_, rfl, 1, rfl, r_ixT (sameT s4 hW) (at_last _ _) (i_nil ⟨a, c, d, k :: r, some n, vn, lv, n, rfl, sameT s4 hA, hD.same s4, sameT s4 hC, sameT s4 hW, hlv, hn1, hb, fun p H4 s5 e4 => ?_⟩)⟩)))))))))
          have s6 := s4.trans s5
          obtain ⟨x, l, hm⟩ : ∃ x l, movedL vn lv (k :: r) n = x :: l := by
            have e := movedL_len (vn := vn) (ns := lv) (ws := k :: r) (m := n)
            cases hz : movedL vn lv (k :: r) n with
            | nil =>
              rw [hz, hlv] at e
              exact absurd (List.eq_nil_of_length_eq_zero e.symm) hn0
            | cons x l => exact ⟨x, l, rfl⟩
          rw [hm] at e4 g
          refine i_ret (i_ifx (i_test (i_op (i_cb (i_cons (i_var rfl (i_nil ⟨p, x, l, rfl, SqT.of e4, i_c ⟨_, _, rfl, rfl, _, rfl, ite2 (fun e => ?_) (fun e => ?_)⟩⟩)))))))
          · exact ⟨_, rfl, q _ _ s6 (by
              rw [g, if_pos (show 0 ≤ PySem.W.minOf ((x :: l).headD 0) (x :: l).tail from of_decide_eq_true e)]
              exact ⟨p, rfl, SqT.of e4⟩)⟩
          · exact q _ _ s6 (by
              rw [g, if_neg (show ¬ 0 ≤ PySem.W.minOf ((x :: l).headD 0) (x :: l).tail from fun z => e (decide_eq_true z))]
              rfl)
      · have el : ((sV vn).length : Int) = (vn.length : Int) := by unfold sV; rw [List.length_map]
        have el2 : ((nV (drawnTo st st.length)).length : Int) = ((drawnTo st st.length).length : Int) := by unfold nV; rw [List.length_map]
        refine i_and (i_test (i_op ⟨_, rfl, i_c (r_ixT (sameT s2 hW) (at_0 _ _) (i_c (r_eqS ⟨_, rfl, ite2 (fun e => ?_) (fun e => ?_)⟩)))⟩))
        · refine i_test (i_op (i_op (i_cb (i_cons (i_var rfl (i_nil ⟨a, _, rfl, .inr (sameT s2 hA), ?_⟩))))))
          refine i_cb (i_cons (i_call (i_cons (i_var rfl (i_nil ⟨b, xs, st, rfl, s2.seq hB, hS.same s2, hz, hne, fun p H4 s4 e4 => i_nil ⟨p, _, rfl, .inl (SqL.of e4), _, _, rfl, rfl, i_c ⟨_, _, rfl, rfl, _, rfl, ?_⟩⟩⟩)))))
          rw [el, el2]
          have z := q' H4 s4
          rw [show isDrawW (k :: r) = true from e, Bool.true_and] at z
          exact z
        · have z := q' H2 (Same.refl _)
          rw [show isDrawW (k :: r) = false from Bool.eq_false_iff.mpr e, Bool.false_and] at z
          exact z
end
end K10
set_option Elab.async false
set_option linter.all false
set_option maxRecDepth 100000
set_option maxHeartbeats 4000000
/-! Sets of any few texts. -/
namespace Er
open PySem PySem.Spec PyProof.Rows
/-- how many different ones are among the first i -/
def dcount (xs : List Str) : Nat → Nat
  | 0 => 0
  | i + 1 => if (xs.take i).any (· == xs.getD i Str.empty) then dcount xs i else dcount xs i + 1
theorem dcount_le (xs : List Str) : ∀ i, dcount xs i ≤ i
  | 0 => Nat.le_refl _
  | i + 1 => by
    have h := dcount_le xs i
    unfold dcount
    split <;> omega
section
variable {prog : Program} {w : World} {A : Around} {R : Result → Shared → Prop} {I : Addr} {fp wr : List Addr} {G : Array GenState → Array GenState → Prop} {n : Nat} {P : Nat → Value → Prop} {St : Nat → Shared → Prop}
theorem loopSet (W : WalksS prog w A.in1 I fp wr G n P St) (S : Addr) (hSf : S ∉ fp) (xs : List Str) (hsz : xs.length = n) (hn1 : n + 1 < scanBound)
    (hval : ∀ i v, P i v → ∃ t, v = .str (xs.getD i Str.empty) t) :
    ∀ (k i : Nat) (s : Shared), n - i = k → i ≤ n → St i s →
      s.heap.SetOf (PySem.strKind prog w) S (fun k' => (xs.take i).any (· == k')) (dcount xs i) →
      (∀ s', Moved (S :: wr) G s s' → s'.heap.SetOf (PySem.strKind prog w) S (fun k' => (xs.take n).any (· == k')) (dcount xs n) → R (.ok (.ret .none)) s') →
      codeAny (model prog w) A (.builtin "set.update.loop" ⟨[.ref S, .ref I], []⟩) R s := by
  have hSw : S ∉ wr := fun h => hSf (W.sub _ h)
  have hsub : ∀ b ∈ wr, b ∈ S :: wr := fun b hb => List.mem_cons_of_mem _ hb
  intro k
  induction k with
  | zero =>
    intro i s hk hi hst hS hR
    have hin : i = n := by omega
    subst hin
    refine codeAny_builtin PyProof.Rows.F.entry_set_update_loop ?_
    rw [Around.under_plainId PyProof.Rows.F.plain_set_update_loop _]
    show wpAny _ A.in1 (pyNext (.ref I) >>= _) _ _ s
    refine wpAny_bind (W.done s _ _ hst fun s' hm => ?_)
    show wpAny _ A.in1 (ret Value.none) _ _ s'
    exact wpAny_pure (hR s' (hm.mono hsub) (by
      obtain ⟨o, es, ep, t, ho, rest⟩ := hS
      exact ⟨o, es, ep, t, hm.heap S _ hSw ho, rest⟩))
  | succ k ih =>
    intro i s hk hi hst hS hR
    have hlt : i < n := by omega
    refine codeAny_builtin PyProof.Rows.F.entry_set_update_loop ?_
    rw [Around.under_plainId PyProof.Rows.F.plain_set_update_loop _]
    show wpAny _ A.in1 (pyNext (.ref I) >>= _) _ _ s
    refine wpAny_bind (W.item i s _ _ hlt hst fun v s' hP hst' hm => ?_)
    obtain ⟨t, rfl⟩ := hval i v hP
    have hS' : s'.heap.SetOf (PySem.strKind prog w) S (fun k' => (xs.take i).any (· == k')) (dcount xs i) := by
      obtain ⟨o, es, ep, tb, ho, rest⟩ := hS
      exact ⟨o, es, ep, tb, hm.heap S _ hSw ho, rest⟩
    have hdc := dcount_le xs i
    show wpAny _ A.in1 (holding [Value.str (xs.getD i Str.empty) t] (setAdd S (.str (xs.getD i Str.empty) t)) >>= _) _ _ s'
    refine wpAny_bind (wpAny_holding ?_)
    unfold setAdd
    refine wpAny_holding ?_
    refine wpAny_bind ((PySem.strKind prog w).pyHash (k := xs.getD i Str.empty) (strKind_is _ _ _ _) ?_)
    refine wpAny_setAddHashed_of (knd := PySem.strKind prog w) (s := { s' with toks := s'.toks + 1 }) (strKind_is _ _ _ _) rfl hS' (by omega) fun h' hsb hS2 => ?_
    have hSi : h'.SetOf (PySem.strKind prog w) S (fun k' => (xs.take (i + 1)).any (· == k')) (dcount xs (i + 1)) := by
      refine SetOf_congr hS2 (fun k' => ?_) ?_
      · have hi2 : i < xs.length := by omega
        have e1 : xs.take (i + 1) = xs.take i ++ [xs.getD i Str.empty] := by
          rw [List.take_add_one, List.getElem?_eq_getElem hi2, List.getD_eq_getElem?_getD, List.getElem?_eq_getElem hi2]
          rfl
        rw [e1, List.any_append]
        show ((xs.take i).any (· == k') || decide (k' = xs.getD i Str.empty)) = ((xs.take i).any (· == k') || ((xs.getD i Str.empty == k') || false))
        rw [Bool.or_false]
        congr 1
        by_cases e : k' = xs.getD i Str.empty
        · rw [decide_eq_true e, e, beq_self_eq_true]
        · rw [decide_eq_false e]
          exact (beq_eq_false_iff_ne.mpr fun z => e z.symm).symm
      · rfl
    refine wpAny_pure ⟨plainId_quiet PyProof.Rows.F.plain_set_update_loop _, ih (i + 1) _ (by omega) hlt (W.frame _ s' _ _ hst' (Nat.le_succ _) fun b hb o e => ?_) hSi fun s'' hm'' hS'' => ?_⟩
    · rw [hsb.2 b (fun h : b = S => hSf (by rw [← h]; exact hb))]; exact e
    · refine hR s'' (Moved.trans W.gtrans ((hm.mono hsub).then_heap (Nat.le_succ _) fun b o hb e => ?_) hm'') hS''
      rw [hsb.2 b (fun h : b = S => hb (by rw [h]; exact List.mem_cons_self))]; exact e
end
end Er
set_option Elab.async false
set_option linter.all false
set_option maxRecDepth 100000
/-! set(a list of texts), any few of them: the new set, its filling, the call. -/
namespace Er
open PySem PySem.Spec PyProof.Rows
/-- a set in which nothing is yet -/
abbrev bare (led : Bool) : Obj := { cls := .type "set", dict := none, data := .set #[] 0 (.fresh 0 0 led) }
/-- what is promised of the set at S when it is made of xs, over the state s -/
def Made (P : Program) (w : World) (s : Shared) (S : Addr) (xs : List Str) (s2 : Shared) : Prop := ∃ (h2 : Heap) (tk : Nat), s2 = ⟨h2, s.gens, s.drawn, tk, s.os⟩ ∧ h2.SetOf (PySem.strKind P w) S (fun x => (xs.take xs.length).any (· == x)) (dcount xs xs.length) ∧
  ∀ b o, b < S → s.heap.get? b = some o → h2.get? b = some o
section
variable {P : Program} {w : World} {A : Around} {E : Value → Shared → Prop} {s : Shared}
set_option maxHeartbeats 3200000 in
/-- S, new and bare, is filled with the items of the list at l -/
theorem fill_set {l : Addr} {items : Array Value} {xs : List Str} {led : Bool} (calm : A.handled = none) (few : xs.length + 1 < scanBound) (hl : s.heap.IsList l items) (hi : StrsAre items.toList xs) :
    codeAny (model P w) A (.call (.builtin "set.__init__") ⟨[.ref s.heap.objs.size, .ref l], []⟩) (wants (fun r s2 => r = .none ∧ Made P w s s.heap.objs.size xs s2) E) { s with heap := s.heap.push (bare led) } := by
  have there : (s.heap.push (bare led)).get? s.heap.objs.size = some (bare led) := Heap.get?_push_size _ rfl
  have isSet : Shared.TypeIs { s with heap := s.heap.push (bare led) } (.ref s.heap.objs.size) "set" := ⟨_, there, rfl⟩
  have cnt : xs.length = items.size := (StrsAre.len_eq hi).symm.trans Array.length_toList
  obtain ⟨⟨lc, ld, lx, ls⟩, lget, c1, nx, c2⟩ := hl
  simp only at c1 c2
  cases c1
  cases c2
  have old : l < s.heap.objs.size := Heap.lt_size lget
  have lget2 : (s.heap.push (bare led)).get? l = some { cls := .type "list", dict := ld, data := .seq items nx, slots := ls } := Heap.get?_push_of_some _ lget
  have list2 : (s.heap.push (bare led)).IsList l items := ⟨_, lget2, rfl, nx, rfl⟩
  have sz2 : (s.heap.push (bare led)).objs.size = s.heap.objs.size + 1 := Heap.size_push ..
  refine codeAny_call_builtin PySem.F.called_set.init.plain PySem.F.entry_set_init (check_set_init_1 isSet ?_)
  -- the steps of its body, up to the iterator
  have noSub := PySem.F.sub_list_set
  have noFrz := PySem.F.sub_list_frozenset
  have noDict : (Value.type "list" == Value.type "dict") = false := by decide
  unfold Builtin.«set.__init__» Builtin.Frozenset.updateFrom noKeywords
  generalize begin : pyIter = it
  wp_walk
  subst begin
  refine wpAny_pyIter_list list2 (wpAny_bind (wpAny_runValue ?_))
  -- the loop
  have apart : s.heap.objs.size ∉ [(s.heap.push (bare led)).objs.size, l] := fun m => by
    rcases List.mem_cons.mp m with e | m
    · rw [sz2] at e
      exact Nat.ne_of_lt (Nat.lt_succ_self _) e
    · exact Nat.ne_of_gt old (List.mem_singleton.mp m)
  have far : l ≠ (s.heap.push (bare led)).objs.size := by
    rw [sz2]
    exact Nat.ne_of_lt (Nat.lt_succ_of_lt old)
  have still : A.in1.in1.handled = none := calm
  have text : ∀ (i : Nat) (v : Value), items[i]? = some v → ∃ t, v = .str (xs.getD i Str.empty) t := fun i v hv => SS.strs_at hi i v ((Array.getElem?_toList ..).trans hv)
  have walk := (Walks.list (prog := P) (w := w) still (s.heap.push (bare led)).objs.size l far items).toS
  refine loopSet walk s.heap.objs.size apart xs cnt (cnt ▸ few) text (items.size - 0) 0 _ rfl (Nat.zero_le _) ?_ ?_ ?_
  · exact ⟨⟨_, Heap.get?_push_size _ rfl, rfl, rfl⟩, list2.push _⟩
  · have at2 := Heap.get?_push_of_some (h := s.heap.push (bare led)) { cls := .type "list_iterator", data := .fields #[.ref l, .int 0 0] } there
    exact SetOf_congr ((setObjOf_fresh (knd := PySem.strKind P w) led).setOf at2 (by unfold scanBound; omega)) (fun _ => rfl) rfl
  · intro s3 mv full
    obtain ⟨h3, g3, d3, t3, o3⟩ := s3
    cases (show g3 = s.gens from mv.gens)
    cases (show d3 = s.drawn from mv.drawn)
    cases (show o3 = s.os from mv.os)
    rw [← cnt] at full
    refine wpAny_pure (wpAny_pure ⟨rfl, h3, t3, rfl, full, fun b o lt e => ?_⟩)
    refine mv.heap b o (fun m => ?_) (Heap.get?_push_of_some _ (Heap.get?_push_of_some _ e))
    rcases List.mem_cons.mp m with q | m
    · exact Nat.ne_of_lt lt q
    · have q := List.mem_singleton.mp m
      rw [sz2] at q
      exact Nat.ne_of_lt (Nat.lt_succ_of_lt lt) q
set_option maxHeartbeats 3200000 in
theorem call_setTx {l : Addr} {items : Array Value} {xs : List Str} {Q : Value → Shared → Prop} (calm : A.handled = none) (hl : s.heap.IsList l items) (hi : StrsAre items.toList xs) (few : xs.length + 1 < scanBound)
    (done : ∀ (h2 : Heap) (tk : Nat), h2.SetOf (PySem.strKind P w) s.heap.objs.size (fun x => (xs.take items.size).any (· == x)) (dcount xs items.size) → (∀ b o, b < s.heap.objs.size → s.heap.get? b = some o → h2.get? b = some o) →
      Q (.ref s.heap.objs.size) { s with heap := h2, toks := tk }) : wpAny (model P w) A (call (.type "set") [.ref l]) Q E s := by
  have cnt : xs.length = items.size := (StrsAre.len_eq hi).symm.trans Array.length_toList
  rw [← cnt] at done
  obtain ⟨c0, c1, order⟩ := PySem.F.called_set.mro
  have makes := PySem.F.called_set.made
  have below := PySem.F.called_set.sub
  have noType := PySem.F.called_set.notType
  have can := PySem.F.called_set.canCreate
  have one := PySem.F.typeCall_set_1 (.ref l)
  refine wpAny_call (codeAny_of_tree ?_)
  show wpAny _ _ (callAny (.type "set") _) _ _ _
  refine wpAny_pure ⟨Code.quiet_builtin _ (by decide +kernel), codeAny_builtin PySem.F.entry_type_call ?_⟩
  rw [Around.under_plain (weight_type_call_type "set" [.ref l] []) rfl]
  repeat (any_goals (first | wp_step | assumption))
  refine codeAny_mono (code_set_new_1 (.ref l) (E := E) (Q₁ := fun o s1 => ∃ led : Bool, o = .ref s.heap.objs.size ∧ s1 = { s with heap := s.heap.push (bare led) }) fun led => ⟨led, rfl, rfl⟩) fun r s1 got => ?_
  cases r with
  | error e => exact got
  | ok fl =>
    cases fl with
    | ret o =>
      obtain ⟨led, rfl, rfl⟩ := got
      have there : (s.heap.push (bare led)).get? s.heap.objs.size = some (bare led) := Heap.get?_push_size _ rfl
      have isSet : Shared.TypeIs { s with heap := s.heap.push (bare led) } (.ref s.heap.objs.size) "set" := ⟨_, there, rfl⟩
      have initAt := PySem.F.called_set.init.lookup
      have initOf := PySem.F.called_set.init.bind (.ref s.heap.objs.size)
      repeat (any_goals (first | wp_step | assumption))
      refine codeAny_mono (fill_set (E := E) (led := led) (A := A.in1) (by simpa using calm) few hl hi) fun r2 s2 got2 => ?_
      cases r2 with
      | error e => exact got2
      | ok fl2 =>
        cases fl2 with
        | ret v =>
          obtain ⟨rfl, h2, tk, rfl, full, kept⟩ := got2
          repeat (any_goals (first | wp_step | assumption))
          exact done h2 tk full kept
        | next => exact got2.elim
        | brk => exact got2.elim
        | cont => exact got2.elim
    | next => exact got.elim
    | brk => exact got.elim
    | cont => exact got.elim
end
end Er
set_option Elab.async false
set_option linter.all false
set_option maxRecDepth 100000
set_option maxHeartbeats 4000000
/-! len(set(xs)), xs a list of texts. -/
namespace Er
open PySem PySem.Spec PyProof.Rows L2
def tLenSetS (K : PySem.W.Frag) (ta : TE) : TE := fun σ H Q => ta σ H fun x H1 => ∃ (l : Addr) (ys : List Str), x = V.ref l ∧ SqL K H1 l (sV ys) ∧ ys.length ≤ 1000 ∧ Q (.int (dcount ys ys.length)) H1
theorem pe_lenSetS {X : Cx} {a : Expr} {ta : TE} {p p2 q pos : Pos} (hc : X.calm = true) (hg : Gl X "len") (hm : X.mg "len" = none) (hg2 : Gl X "set") (hm2 : X.mg "set" = none) (ha : PE X a ta)
    (na : starEach [a] X.env = (false, eval a X.env) :: starEach [] X.env := by rfl) : PE X (.Call (.Name "len" p) [.Call (.Name "set" p2) [a] [] q] [] pos) (tLenSetS X.K ta) := by
  refine ⟨fun pins s σ H Q I h => ?_⟩
  refine Call_ (ld_blt I hg hm PySem.boot_len ?_)
  refine PyProof.Rows.callWith_builtin1 (PyProof.Rows.args_cons ?_ rfl) rfl rfl
  refine Call_ (ld_blt I hg2 hm2 PyProof.Rows.boot_set ?_)
  refine PyProof.Rows.callWith_type1 (PyProof.Rows.args_cons (thn (ha.run pins s σ H _ I h) fun v s1 ⟨x, H1, I1, r1, q1⟩ => PyProof.Rows.args_nil ?_) na) na rfl
  obtain ⟨l, ys, rfl, hq, h1, q1⟩ := q1
  cases r1
  obtain ⟨its, r, pl, hz⟩ := I1.list hq
  have hl : its.toArray.size = ys.length := by
    rw [List.size_toArray, ← r.length]
    exact List.length_map ..
  refine call_setTx (I1.ok.hd hc) pl.isList (xs := ys) (by simpa using Vals.strs r) (by unfold scanBound; omega) fun h' tk hS hk => ?_
  rw [hl] at hS
  have hd := dcount_le ys ys.length
  refine PyProof.Rows.args_nil ?_
  obtain ⟨o, es, ep, t, ho, hex, hdt, _, _, _, hf, hn⟩ := hS
  have I2 : Inv X pins σ H1 { s1 with heap := h', toks := tk } := I1.kept fun b o e => hk b o (Heap.lt_size e) e
  refine call_len_set ho hex hdt hf (by rw [hn]; omega) ⟨.int (dcount ys ys.length), H1, I2.tok _, ⟨_, by rw [hn]⟩, q1⟩
/-- fewer different ones than all: some stands twice -/
theorem dcount_take (xs : List Str) : ∀ i, i ≤ xs.length → (dcount xs i = i ↔ (xs.take i).Nodup)
  | 0, _ => by simp [dcount]
  | i + 1, h => by
    have ih := dcount_take xs i (by omega)
    have hd := dcount_le xs i
    have hi : i < xs.length := by omega
    have e1 : xs.take (i + 1) = xs.take i ++ [xs.getD i Str.empty] := by
      rw [List.take_add_one, List.getElem?_eq_getElem hi, List.getD_eq_getElem?_getD, List.getElem?_eq_getElem hi]
      rfl
    rw [e1, List.nodup_append]
    unfold dcount
    by_cases c : (xs.take i).any (· == xs.getD i Str.empty) = true
    · rw [if_pos c]
      constructor
      · intro z
        omega
      · rintro ⟨_, _, h3⟩
        obtain ⟨x, hx, ex⟩ := List.any_eq_true.mp c
        have ex2 : x = xs.getD i Str.empty := eq_of_beq ex
        exact absurd ex2 (h3 x hx _ (List.mem_cons_self ..))
    · rw [if_neg c]
      constructor
      · intro z
        refine ⟨ih.mp (by omega), List.nodup_cons.mpr ⟨List.not_mem_nil, List.nodup_nil⟩, fun x hx y hy => ?_⟩
        rcases List.mem_cons.mp hy with rfl | hy
        · exact fun z => c (List.any_eq_true.mpr ⟨x, hx, by rw [z]; exact beq_self_eq_true _⟩)
        · cases hy
      · rintro ⟨h1, _, _⟩
        rw [ih.mpr h1]
theorem dcount_all (xs : List Str) : dcount xs xs.length = xs.length ↔ xs.Nodup := by
  have z := dcount_take xs xs.length (Nat.le_refl _)
  rwa [List.take_length] at z
end Er
set_option Elab.async false
set_option linter.all false
set_option maxRecDepth 100000
set_option maxHeartbeats 4000000
/-! The line of the vessels. -/
namespace Er
open PySem PySem.Spec PyProof.Rows L2
theorem cut_tail (a : V) (xs : List V) : cutV (a :: xs) (some 1) none = xs := by
  unfold cutV
  have e2 : HT.sIx (a :: xs).length 0 (some 1) = 1 := by
    show (if (1 : Int) < 0 then (1 + (((a :: xs).length : Nat) : Int)).toNat else min 1 (a :: xs).length) = 1
    rw [if_neg (by decide), List.length_cons]
    omega
  rw [e2]
  show List.take ((a :: xs).length - 1) xs = xs
  rw [List.length_cons, Nat.add_sub_cancel, List.take_length]
def vessL (k : Str) (ns : List Str) : Option (List Str) := if k = ("vessels" : Str) ∧ 1 ≤ ns.length ∧ ns.length ≤ 6 ∧ (ns.all isNameS = true) ∧ ns.Nodup then some ns else none
def OptVes (K : PySem.W.Frag) (H : Hp) (v : V) : Option (List Str) → Prop
  | none => v = .non
  | some l => ∃ p, v = .ref p ∧ SqT K H p (sV l) ∧ TupD K H p
def spVessIn (K : PySem.W.Frag) : Sp := fun vs H Q _ => ∃ x k ns, vs = [.str x] ∧ Txt.split x " " = k :: ns ∧ x.length ≤ 100000 ∧ ns.length ≤ 1000 ∧ (∀ w ∈ ns, w.length ≤ 100000) ∧ ∀ v H', Same H H' → OptVes K H' v (vessL k ns) → Q v H'
end Er
set_option Elab.async false
set_option linter.all false
set_option maxRecDepth 100000
set_option maxHeartbeats 4000000
/-! set and len(set(..)) of a tuple of texts. -/
namespace Er
open PySem PySem.Spec PyProof.Rows
section
variable {P : Program} {w : World} {A : Around} {E : Value → Shared → Prop} {s : Shared}
set_option maxHeartbeats 3200000 in
/-- S, new and bare, is filled with the items of the list at l -/
theorem fill_setT {l : Addr} {items : Array Value} {xs : List Str} {led : Bool} (calm : A.handled = none) (few : xs.length + 1 < scanBound) (hl : s.heap.IsTuple l items) (hi : StrsAre items.toList xs) :
    codeAny (model P w) A (.call (.builtin "set.__init__") ⟨[.ref s.heap.objs.size, .ref l], []⟩) (wants (fun r s2 => r = .none ∧ Made P w s s.heap.objs.size xs s2) E) { s with heap := s.heap.push (bare led) } := by
  have there : (s.heap.push (bare led)).get? s.heap.objs.size = some (bare led) := Heap.get?_push_size _ rfl
  have isSet : Shared.TypeIs { s with heap := s.heap.push (bare led) } (.ref s.heap.objs.size) "set" := ⟨_, there, rfl⟩
  have cnt : xs.length = items.size := (StrsAre.len_eq hi).symm.trans Array.length_toList
  obtain ⟨⟨lc, ld, lx, ls⟩, lget, c1, nx, c2⟩ := hl
  simp only at c1 c2
  cases c1
  cases c2
  have old : l < s.heap.objs.size := Heap.lt_size lget
  have lget2 : (s.heap.push (bare led)).get? l = some { cls := .type "tuple", dict := ld, data := .seq items nx, slots := ls } := Heap.get?_push_of_some _ lget
  have list2 : (s.heap.push (bare led)).IsTuple l items := ⟨_, lget2, rfl, nx, rfl⟩
  have sz2 : (s.heap.push (bare led)).objs.size = s.heap.objs.size + 1 := Heap.size_push ..
  refine codeAny_call_builtin PySem.F.called_set.init.plain PySem.F.entry_set_init (check_set_init_1 isSet ?_)
  -- the steps of its body, up to the iterator
  have noSub := PySem.F.sub_tuple_set
  have noFrz := PySem.F.sub_tuple_frozenset
  have noDict : (Value.type "tuple" == Value.type "dict") = false := by decide
  unfold Builtin.«set.__init__» Builtin.Frozenset.updateFrom noKeywords
  generalize begin : pyIter = it
  wp_walk
  subst begin
  refine wpAny_pyIter_tuple list2 (wpAny_bind (wpAny_runValue ?_))
  -- the loop
  have apart : s.heap.objs.size ∉ [(s.heap.push (bare led)).objs.size, l] := fun m => by
    rcases List.mem_cons.mp m with e | m
    · rw [sz2] at e
      exact Nat.ne_of_lt (Nat.lt_succ_self _) e
    · exact Nat.ne_of_gt old (List.mem_singleton.mp m)
  have far : l ≠ (s.heap.push (bare led)).objs.size := by
    rw [sz2]
    exact Nat.ne_of_lt (Nat.lt_succ_of_lt old)
  have still : A.in1.in1.handled = none := calm
  have text : ∀ (i : Nat) (v : Value), items[i]? = some v → ∃ t, v = .str (xs.getD i Str.empty) t := fun i v hv => SS.strs_at hi i v ((Array.getElem?_toList ..).trans hv)
  have walk := (Walks.tuple (prog := P) (w := w) still (s.heap.push (bare led)).objs.size l far items).toS
  refine loopSet walk s.heap.objs.size apart xs cnt (cnt ▸ few) text (items.size - 0) 0 _ rfl (Nat.zero_le _) ?_ ?_ ?_
  · exact ⟨⟨_, Heap.get?_push_size _ rfl, rfl, rfl⟩, list2.push _⟩
  · have at2 := Heap.get?_push_of_some (h := s.heap.push (bare led)) { cls := .type "tuple_iterator", data := .fields #[.ref l, .int 0 0] } there
    exact SetOf_congr ((setObjOf_fresh (knd := PySem.strKind P w) led).setOf at2 (by unfold scanBound; omega)) (fun _ => rfl) rfl
  · intro s3 mv full
    obtain ⟨h3, g3, d3, t3, o3⟩ := s3
    cases (show g3 = s.gens from mv.gens)
    cases (show d3 = s.drawn from mv.drawn)
    cases (show o3 = s.os from mv.os)
    rw [← cnt] at full
    refine wpAny_pure (wpAny_pure ⟨rfl, h3, t3, rfl, full, fun b o lt e => ?_⟩)
    refine mv.heap b o (fun m => ?_) (Heap.get?_push_of_some _ (Heap.get?_push_of_some _ e))
    rcases List.mem_cons.mp m with q | m
    · exact Nat.ne_of_lt lt q
    · have q := List.mem_singleton.mp m
      rw [sz2] at q
      exact Nat.ne_of_lt (Nat.lt_succ_of_lt lt) q
set_option maxHeartbeats 3200000 in
theorem call_setTt {l : Addr} {items : Array Value} {xs : List Str} {Q : Value → Shared → Prop} (calm : A.handled = none) (hl : s.heap.IsTuple l items) (hi : StrsAre items.toList xs) (few : xs.length + 1 < scanBound)
    (done : ∀ (h2 : Heap) (tk : Nat), h2.SetOf (PySem.strKind P w) s.heap.objs.size (fun x => (xs.take items.size).any (· == x)) (dcount xs items.size) → (∀ b o, b < s.heap.objs.size → s.heap.get? b = some o → h2.get? b = some o) →
      Q (.ref s.heap.objs.size) { s with heap := h2, toks := tk }) : wpAny (model P w) A (call (.type "set") [.ref l]) Q E s := by
  have cnt : xs.length = items.size := (StrsAre.len_eq hi).symm.trans Array.length_toList
  rw [← cnt] at done
  obtain ⟨c0, c1, order⟩ := PySem.F.called_set.mro
  have makes := PySem.F.called_set.made
  have below := PySem.F.called_set.sub
  have noType := PySem.F.called_set.notType
  have can := PySem.F.called_set.canCreate
  have one := PySem.F.typeCall_set_1 (.ref l)
  refine wpAny_call (codeAny_of_tree ?_)
  show wpAny _ _ (callAny (.type "set") _) _ _ _
  refine wpAny_pure ⟨Code.quiet_builtin _ (by decide +kernel), codeAny_builtin PySem.F.entry_type_call ?_⟩
  rw [Around.under_plain (weight_type_call_type "set" [.ref l] []) rfl]
  repeat (any_goals (first | wp_step | assumption))
  refine codeAny_mono (code_set_new_1 (.ref l) (E := E) (Q₁ := fun o s1 => ∃ led : Bool, o = .ref s.heap.objs.size ∧ s1 = { s with heap := s.heap.push (bare led) }) fun led => ⟨led, rfl, rfl⟩) fun r s1 got => ?_
  cases r with
  | error e => exact got
  | ok fl =>
    cases fl with
    | ret o =>
      obtain ⟨led, rfl, rfl⟩ := got
      have there : (s.heap.push (bare led)).get? s.heap.objs.size = some (bare led) := Heap.get?_push_size _ rfl
      have isSet : Shared.TypeIs { s with heap := s.heap.push (bare led) } (.ref s.heap.objs.size) "set" := ⟨_, there, rfl⟩
      have initAt := PySem.F.called_set.init.lookup
      have initOf := PySem.F.called_set.init.bind (.ref s.heap.objs.size)
      repeat (any_goals (first | wp_step | assumption))
      refine codeAny_mono (fill_setT (E := E) (led := led) (A := A.in1) (by simpa using calm) few hl hi) fun r2 s2 got2 => ?_
      cases r2 with
      | error e => exact got2
      | ok fl2 =>
        cases fl2 with
        | ret v =>
          obtain ⟨rfl, h2, tk, rfl, full, kept⟩ := got2
          repeat (any_goals (first | wp_step | assumption))
          exact done h2 tk full kept
        | next => exact got2.elim
        | brk => exact got2.elim
        | cont => exact got2.elim
    | next => exact got.elim
    | brk => exact got.elim
    | cont => exact got.elim
end
end Er
namespace Er
open PySem PySem.Spec PyProof.Rows L2

def tLenSetT (K : PySem.W.Frag) (ta : TE) : TE := fun σ H Q => ta σ H fun x H1 => ∃ (l : Addr) (ys : List Str), x = V.ref l ∧ SqT K H1 l (sV ys) ∧ ys.length ≤ 1000 ∧ Q (.int (dcount ys ys.length)) H1
theorem pe_lenSetT {X : Cx} {a : Expr} {ta : TE} {p p2 q pos : Pos} (hc : X.calm = true) (hg : Gl X "len") (hm : X.mg "len" = none) (hg2 : Gl X "set") (hm2 : X.mg "set" = none) (ha : PE X a ta)
    (na : starEach [a] X.env = (false, eval a X.env) :: starEach [] X.env := by rfl) : PE X (.Call (.Name "len" p) [.Call (.Name "set" p2) [a] [] q] [] pos) (tLenSetT X.K ta) := by
  refine ⟨fun pins s σ H Q I h => ?_⟩
  refine Call_ (ld_blt I hg hm PySem.boot_len ?_)
  refine PyProof.Rows.callWith_builtin1 (PyProof.Rows.args_cons ?_ rfl) rfl rfl
  refine Call_ (ld_blt I hg2 hm2 PyProof.Rows.boot_set ?_)
  refine PyProof.Rows.callWith_type1 (PyProof.Rows.args_cons (thn (ha.run pins s σ H _ I h) fun v s1 ⟨x, H1, I1, r1, q1⟩ => PyProof.Rows.args_nil ?_) na) na rfl
  obtain ⟨l, ys, rfl, hq, h1, q1⟩ := q1
  cases r1
  obtain ⟨its, r, pl, hz⟩ := I1.tuple hq
  have hl : its.toArray.size = ys.length := by
    rw [List.size_toArray, ← r.length]
    exact List.length_map ..
  refine call_setTt (I1.ok.hd hc) pl (xs := ys) (by simpa using Vals.strs r) (by unfold scanBound; omega) fun h' tk hS hk => ?_
  rw [hl] at hS
  have hd := dcount_le ys ys.length
  refine PyProof.Rows.args_nil ?_
  obtain ⟨o, es, ep, t, ho, hex, hdt, _, _, _, hf, hn⟩ := hS
  have I2 : Inv X pins σ H1 { s1 with heap := h', toks := tk } := I1.kept fun b o e => hk b o (Heap.lt_size e) e
  refine call_len_set ho hex hdt hf (by rw [hn]; omega) ⟨.int (dcount ys ys.length), H1, I2.tok _, ⟨_, by rw [hn]⟩, q1⟩
end Er
set_option Elab.async false
set_option linter.all false
set_option maxRecDepth 100000
set_option maxHeartbeats 4000000
/-! The vessels of a line as a tuple of texts. -/
namespace Er
open PySem PySem.Spec PyProof.Rows L2
def vesB (ns : List Str) : Bool := decide (1 ≤ ns.length ∧ ns.length ≤ 6 ∧ (ns.all isNameS = true) ∧ ns.Nodup)
def spAreV (K : PySem.W.Frag) : Sp := fun vs H Q _ => ∃ p ns, vs = [.ref p] ∧ SqT K H p (sV ns) ∧ ns.length ≤ 1000 ∧ (∀ w ∈ ns, w.length ≤ 100000) ∧ ∀ H', Same H H' → Q (.bl (vesB ns)) H'
theorem shAll_sV {K : PySem.W.Frag} {H : Hp} : ∀ (ws : List Str), ShAll K H (sV ws) (ws.map PyData.str)
  | [] => .nil
  | w :: ws => .cons (.str w) (shAll_sV ws)
theorem vessL_eq (k : Str) (ns : List Str) : vessL k ns = if k = ("vessels" : Str) ∧ vesB ns = true then some ns else none := by
  unfold vessL vesB
  by_cases h : k = ("vessels" : Str) ∧ 1 ≤ ns.length ∧ ns.length ≤ 6 ∧ (ns.all isNameS = true) ∧ ns.Nodup
  · rw [if_pos h, if_pos ⟨h.1, decide_eq_true h.2⟩]
  · rw [if_neg h, if_neg fun z => h ⟨z.1, of_decide_eq_true z.2⟩]
end Er
set_option Elab.async false
set_option linter.all false
set_option maxRecDepth 100000
set_option maxHeartbeats 4000000
namespace K10
open PySem PySem.Spec PyProof.Rows L2 Er
section
variable {P : Program} {w : World} {K : PySem.W.Frag} {mg : Str → Option Value} {base : Heap} {f : Addr} {fd : FuncData}
theorem sc_are_vessels : FnScope ["value", "name"] ["value"] (defScope s_are_vessels) := ⟨rfl, rfl, rfl, by decide +kernel, rfl, by decide +kernel, by decide +kernel⟩
theorem ok_are_vessels (T : Tx K mg) (F : FunD K "are_vessels" "are_vessels" (defArgs s_are_vessels) (defBody s_are_vessels) (defScope s_are_vessels) [] [] f fd) {fdGNa : FuncData} (GNa : FnOk P w K mg base CX0 1 (He.ga K "is_name") fdGNa ["value"] (spIsName K)) (GNaF : FnT K "is_name" s_is_name fdGNa) (GNaB : Binds K fdGNa ["value"] []) : FnOk P w K mg base CX0 2 f fd ["value"] (spAreV K) := by
  refine F.ok sc_are_vessels (fun vs H Q E h => ?_) (fun cdv A outer s H vs Q E hr h => ?_)
  · obtain ⟨p, ns, rfl, _⟩ := h
    rfl
  · obtain ⟨p, ns, rfl, hp, hl, hall, q⟩ := h
    have hr_GNa := hr
    refine ⟨_, PSs.nox (pss_cons (ps_if (PW.pt (pw_or (pt_not (pt_val (pe_callB call_isi (by rfl) (T.fr "isinstance" (mem_at 7 rfl)) (by decide +kernel) (pa_cons (pv 0) (pa_cons (pe_bltn (v := .ty "tuple") (by rfl) (T.fr "tuple" (mem_at 17 rfl)) (by decide +kernel) rfl) pa_nil))))) (pw_or1 (pt_not (pt_chain op_le op_le pe_int (pe_callB call_len_seq (by rfl) (T.fr "len" (mem_at 8 rfl)) PySem.boot_len (pa_cons (pv 0) pa_nil)) (pe_glob (v := .int 6) (by rfl) (Exists.choose_spec T.int_MOST_VESSELS) ⟨_, rfl⟩))))))
        (pss_one (ps_ret pe_bl))
        pss_nil)
      (pss_one (ps_ret (pe_and (pe_callB (cr_all rfl) (by rfl) (T.fr "all" (mem_at 1 rfl)) (by decide +kernel) (pa_cons (pe_lc (own := [("name", 1)]) (g := gName 1) (tt := tYes) rfl sc_are_vessels.nd (pi_tup (pv 0)) (blkOk_by (N := ["value", "name"]) (sc := defScope s_are_vessels) (by decide +kernel)) (fun _ _ _ _ _ => pg_name (i := 1) sc_are_vessels.nd rfl (Or.inl rfl)) (fun _ _ _ _ _ => pts_nil) (fun _ _ _ _ _ => (pe_call GNa hr_GNa (by rfl) (T.gd "is_name" (mem_at 3 rfl)) GNaF.kp GNaB .nil pass0 (pa_cons (pv 1) pa_nil)))) pa_nil)) (pe_one (pe_cmpR op_eq (pe_lenSetT rfl (by rfl) (T.fr "len" (mem_at 8 rfl)) (by rfl) (T.fr "set" (mem_at 14 rfl)) (pv 0)) (pe_callB call_len_seq (by rfl) (T.fr "len" (mem_at 8 rfl)) PySem.boot_len (pa_cons (pv 0) pa_nil)) (nomark _))))))), ?_⟩
    have hsl : (sV ns).length = ns.length := List.length_map ..
    have sh : Sh K H (.ref p) (.tuple (ns.map PyData.str)) := .tup hp (shAll_sV ns)
    have bad : ∀ H', Same H H' → ¬ (1 ≤ ns.length ∧ ns.length ≤ 6 ∧ (ns.all isNameS = true) ∧ ns.Nodup) → Q (.bl false) H' := fun H' s z => by
      have y := q H' s
      rw [show vesB ns = false from decide_eq_false z] at y
      exact y
    refine i_if0 (i_or (i_not (i_B (i_isi rfl sh (isK_tuple _) ⟨_, rfl, ?_⟩))))
    refine iteF (i_not (i_test ⟨_, rfl, p, sV ns, rfl, .inr hp, 1, _, rfl, rfl, _, rfl, ite2 (fun e => ?_) (fun e => ?_)⟩))
    · have l1 : 1 ≤ ns.length := by
        have z := of_decide_eq_true e
        omega
      refine ⟨_, 6, rfl, rfl, _, rfl, ite2 (fun e2 => ?_) (fun e2 => ?_)⟩
      · have z := of_decide_eq_false (bn e2)
        exact bad _ (Same.refl _) (fun y => z (by have := y.2.1; omega))
      · have l6 : ns.length ≤ 6 := by
          have z := of_decide_eq_true (bt e2)
          omega
        have vl : (ns.map fun w => V.bl (isNameS w)).length = (sV ns).length := by rw [List.length_map, hsl]
        refine i_ret (i_andV (i_cb (i_cons (i_lc ⟨_, rfl, p, rfl, ⟨_, hp⟩, fun Dl nD => lr_map walk_tup (ns.map fun w => V.bl (isNameS w)) vl (by rw [hsl]; omega) nD (fun _ s => sameT s hp) (fun i y H2 H3 v hv s3 hy Q' kq => ?_) (fun _ _ _ => gName_mono) (fun H2 e6 s3 => ?_)⟩))))
        · obtain ⟨rfl, hy⟩ := hy
          unfold sV at hy
          rw [List.getElem?_map] at hv hy
          obtain ⟨w, hw2, rfl⟩ := Option.map_eq_some_iff.mp hv
          rw [hw2] at hy
          cases Option.some.inj hy
          refine ⟨rfl, i_call (i_cons (i_var rfl (i_nil ⟨.str w, .str w, rfl, .str w, fun z hz => ?_, fun H5 s5 => kq _ s5⟩)))⟩
          cases hz
          exact hall w (List.mem_of_getElem? hw2)
        · refine i_nil ⟨Dl, ns.map isNameS, rfl, SqL.of (by rw [e6, List.map_map]; rfl), ?_⟩
          have e7 : (ns.map isNameS).all id = ns.all isNameS := by
            rw [List.all_map]
            rfl
          rw [e7]
          have hp2 := sameT s3 hp
          refine ⟨_, rfl, ite2 (fun e3 => ?_) (fun e3 => ?_)⟩
          · have hd := dcount_le ns ns.length
            refine i_op ⟨_, rfl, p, ns, rfl, hp2, hl, _, rfl, p, _, rfl, .inr hp2, r_eqI ?_⟩
            have y := q _ s3
            have ey : vesB ns = decide ((dcount ns ns.length : Int) = ((sV ns).length : Nat)) := by
              unfold vesB
              have z := dcount_all ns
              refine decide_eq_decide.mpr ⟨fun z2 => ?_, fun z2 => ⟨l1, l6, e3, z.mp ?_⟩⟩
              · have := z.mpr z2.2.2.2
                omega
              · omega
            rw [ey] at y
            exact y
          · exact bad _ s3 (fun y => e3 y.2.2.1)
    · have z : ¬ (1 : Int) ≤ ((sV ns).length : Nat) := fun y => e (decide_eq_true y)
      exact ⟨_, rfl, bad _ (Same.refl _) (fun y => z (by have := y.1; omega))⟩
theorem sc_vessels_in : FnScope ["line", "words", "names"] ["line"] (defScope s_vessels_in) := ⟨rfl, rfl, rfl, by decide +kernel, rfl, by decide +kernel, by decide +kernel⟩
theorem ok_vessels_in (T : Tx K mg) (F : FunD K "vessels_in" "vessels_in" (defArgs s_vessels_in) (defBody s_vessels_in) (defScope s_vessels_in) [] [] f fd) {fdGAv : FuncData} (GAv : FnOk P w K mg base CX0 2 (He.ga K "are_vessels") fdGAv ["value"] (spAreV K)) (GAvF : FnT K "are_vessels" s_are_vessels fdGAv) (GAvB : Binds K fdGAv ["value"] []) : FnOk P w K mg base CX0 3 f fd ["line"] (spVessIn K) := by
  refine F.ok sc_vessels_in (fun vs H Q E h => ?_) (fun cdv A outer s H vs Q E hr h => ?_)
  · obtain ⟨x, k, ns, rfl, _⟩ := h
    rfl
  · obtain ⟨x, k, ns, rfl, hw, hx, hl, hall, q⟩ := h
    have hr_GAv := hr
    refine ⟨_, PSs.nox (pss_cons (ps_set (i := 1) sc_vessels_in.nd rfl (Or.inl rfl) (pe_split (pv 0) pe_str))
      (pss_cons (ps_set (i := 2) sc_vessels_in.nd rfl (Or.inl rfl) (pe_callTy call_tupleF (by rfl) (T.fr "tuple" (mem_at 17 rfl)) (by decide +kernel) (pa_cons (pe_slice sl_list (pv 1) (po_some pe_int) po_none) pa_nil)))
      (pss_one (ps_ret (pe_ifExp (PW.pt (pw_and (pt_cmpR op_eq (pe_ix ix_list (pv 1) pe_int (fun _ _ => rfl)) pe_str (nomark _)) (pw_and1 (pt_val (pe_call GAv hr_GAv (by rfl) (T.gd "are_vessels" (mem_at 33 rfl)) GAvF.kp GAvB .nil pass0 (pa_cons (pv 2) pa_nil)))))) (pv 2) pe_non))))), ?_⟩
    refine i_set ⟨_, rfl, ⟨x, rfl⟩, x, (" " : Str), rfl, rfl, by decide +kernel, Nat.le_trans (Nat.add_le_add_right hx 2) (by decide), fun p np => ?_⟩
    have s1 : Same H (upd H p (.lst (V.str k :: sV ns))) := same_new np
    have e1 : (Txt.split x (" " : Str)).map V.str = V.str k :: sV ns := by
      rw [hw]
      rfl
    rw [e1]
    refine i_set (i_cb (i_cons ⟨_, rfl, 1, rfl, p, _, rfl, SqL.of upd_same, fun p2 np2 => ?_⟩))
    rw [cut_tail]
    have s2 := s1.trans (same_new (o := .lst (sV ns)) np2)
    have hp := same_new (o := .lst (sV ns)) np2 _ _ (upd_same (H := H) (a := p) (o := .lst (V.str k :: sV ns)))
    have hsl : (sV ns).length = ns.length := List.length_map ..
    have hl0 : (upd (upd H p (.lst (V.str k :: sV ns))) p2 (.lst (sV ns))) p2 = some (.lst (sV ns)) := upd_same
    generalize upd (upd H p (.lst (V.str k :: sV ns))) p2 (.lst (sV ns)) = H2 at s2 hp hl0
    refine i_nil ⟨p2, sV ns, rfl, SqL.of hl0, fun t o nt hc hd => ?_⟩
    have s3 := s2.trans (same_new (o := .frz o (.tup (sV ns))) nt)
    have hp3 := same_new (o := .frz o (.tup (sV ns))) nt _ _ hp
    have ht : SqT K (upd H2 t (.frz o (.tup (sV ns)))) t (sV ns) := .inl (.inr ⟨o, upd_same⟩)
    have td : TupD K (upd H2 t (.frz o (.tup (sV ns)))) t := .inr ⟨o, _, upd_same, hc, hd⟩
    generalize upd H2 t (.frz o (.tup (sV ns))) = H3 at s3 hp3 ht td
    refine i_ret (i_ifx (i_and (i_test (i_op ⟨_, rfl, i_c ⟨p, _, 0, _, rfl, rfl, SqL.of hp3, at_0 _ _, i_c (r_eqS ⟨_, rfl, ite2 (fun e => ?_) (fun e => ?_)⟩)⟩⟩))))
    · have ek : k = ("vessels" : Str) := of_decide_eq_true e
      refine i_test (i_call (i_cons (i_var rfl (i_nil ⟨t, ns, rfl, ht, hl, hall, fun H4 s4 => ⟨_, rfl, ite2 (fun e2 => ?_) (fun e2 => ?_)⟩⟩))))
      · refine i_var rfl (q _ _ (s3.trans s4) ?_)
        rw [vessL_eq, if_pos ⟨ek, e2⟩]
        exact ⟨t, rfl, sameT s4 ht, td.same s4⟩
      · refine q _ _ (s3.trans s4) ?_
        rw [vessL_eq, if_neg fun z => e2 z.2]
        rfl
    · refine q _ _ s3 ?_
      rw [vessL_eq, if_neg fun z => e (decide_eq_true z.1)]
      rfl
end
end K10
set_option Elab.async false
set_option linter.all false
set_option maxRecDepth 100000
set_option maxHeartbeats 4000000
/-! enumerate of a list from a number k; of a tuple. -/
namespace Er
open PySem PySem.Spec PyProof.Rows L2
/-- the list at a, each item in a new pair, counted from k -/
def ItK (K : PySem.W.Frag) (k : Int) (a : Addr) : It :=
  ⟨fun i H => ∃ (xs : List V) (x : V), SqL K H a xs ∧ xs[i]? = some x, fun i H v H' => ∃ T x, v = .ref T ∧ H T = none ∧ H' = upd H T (.tup [.int (k + (i : Nat)), x]) ∧ ∀ xs, SqL K H a xs → xs[i]? = some x, fun i H => ∃ xs : List V, SqL K H a xs ∧ xs.length = i⟩
theorem turn_enumK {P : Program} {w : World} {K : PySem.W.Frag} {elts : List Expr} {kk : Nat} {tpos : Pos} (k : Int) (a e it : Addr) :
    Turn P w K (.Tuple elts kk tpos) (ItK K k a) [e, it] e (fun i h => (∃ old, IsEnum h e it (k + ((i : Nat) : Int)) old) ∧ h.IsListIter it a i ∧ e ≠ it) where
  mem := by simp
  obj := fun i h st b hb => by
    obtain ⟨⟨old, he⟩, ⟨o, ho, hc, hd⟩, _⟩ := st
    have e' : b = e ∨ b = it := by simpa using hb
    rcases e' with z | z
    · rw [z]; exact ⟨_, he, fun v q => nomatch q⟩
    · rw [z]; exact ⟨o, ho, fun v q => by rw [hd] at q; cases q⟩
  keep := fun i h h' st kp => let ⟨⟨old, he⟩, hi, hne⟩ := st; ⟨⟨old, kp e (by simp) _ he⟩, hi.at fun o q => kp it (by simp) o q, hne⟩
  item := by
    intro X hP hw hK hc i pins s σ H E I hf st hg
    subst hP hw hK
    obtain ⟨⟨old, he⟩, hit, hne⟩ := st
    obtain ⟨xs, x, hq, hx⟩ := hg
    obtain ⟨its, rv, p, hz⟩ := I.list hq
    obtain ⟨u, hu, ru⟩ := rv.get hx
    have hel : e < s.heap.objs.size := Heap.lt_size he
    have hil : it < s.heap.objs.size := by obtain ⟨_, q, _⟩ := hit; exact Heap.lt_size q
    have hai : a ≠ it := fun z => by
      obtain ⟨o1, g1, c1, _⟩ := p.isList
      obtain ⟨o2, g2, c2, _⟩ := hit
      rw [z, g2] at g1
      cases g1
      rw [c2] at c1
      injection c1 with c1
      exact absurd c1 (by decide)
    have hea : e ≠ a := fun z => by
      obtain ⟨o1, g1, c1, _⟩ := p.isList
      rw [← z, he] at g1
      cases g1
      injection c1 with c1
      exact absurd c1 (by decide)
    have D := Draws.list (prog := X.prog) (w := X.w) (A := X.A.in1) (by simp [I.ok.hd hc]) it a hai its.toArray
    have hlt : i < its.toArray.size := by
      have := (List.getElem?_eq_some_iff.mp hu).1
      simpa using this
    refine wpAny_pyNext_enum_itemC D he ⟨hit, p.isList⟩ hlt hne (by simp [hne, hea]) fun x' h' tk hP ho hs' hT hsz hk => ?_
    have ex : x' = u := by
      have h1 : its[i]? = some x' := by simpa using hP
      exact Option.some.inj (h1.symm.trans hu)
    subst ex
    refine ⟨_, rfl, wpAny_letOwnedTupleGo_enum (s := { s with heap := h', toks := tk + 1 }) ho fun h'' he' sb => ?_⟩
    have hT2 : h''.get? s.heap.objs.size = some { cls := .type "tuple", data := .seq #[.int (k + (i : Nat)) tk, x'] } := (sb.2 _ (Nat.ne_of_gt hel)).trans hT
    have new : ObjOk X.prog X.w (upd H s.heap.objs.size (.tup [.int (k + (i : Nat)), x])) h'' s.heap.objs.size (.tup [.int (k + (i : Nat)), x]) :=
      ⟨by show 2 ≤ sizeLine; decide, [.int (k + (i : Nat)) tk, x'], .cons ⟨_, rfl⟩ (.cons ru .nil), ⟨_, hT2, rfl, _, rfl⟩⟩
    have I1 : Inv X pins σ (upd H s.heap.objs.size (.tup [.int (k + (i : Nat)), x])) { s with heap := h'', toks := tk + 1 } :=
      I.turnedNew (ch := [e, it]) (fun b ob hb q => (sb.2 b (fun z => hb (by simp [z]))).trans (hk b ob (fun z => hb (by simp [z])) (fun z => hb (by simp [z])) q)) hf (Nat.le_refl _) new
    refine ⟨.ref s.heap.objs.size, _, I1, rfl, ⟨_, x, rfl, I.hok.fresh (Nat.le_refl _), rfl, fun ys hy => by rw [I.list_inj hy hq]; exact hx⟩, ⟨⟨x', ?_⟩, hs'.1.at fun o q => (sb.2 it (Ne.symm hne)).trans q, hne⟩, fun b hb => ?_⟩
    · have e1 : k + ((i + 1 : Nat) : Int) = k + (i : Int) + 1 := by omega
      rw [e1]; exact he'
    · have hb' : b < s.heap.objs.size := by
        have e' : b = e ∨ b = it := by simpa using hb
        rcases e' with z | z
        · rw [z]; exact hel
        · rw [z]; exact hil
      rw [upd_ne (Nat.ne_of_lt hb')]
      exact (hf b hb).1
  done := by
    intro X hP hw hK hc i pins s σ H E I hf st hg
    subst hP hw hK
    obtain ⟨⟨old, he⟩, hit, hne⟩ := st
    obtain ⟨xs, hq, hx⟩ := hg
    obtain ⟨its, rv, p, hz⟩ := I.list hq
    obtain ⟨f0, f1, f2, f3, f4, f5⟩ := hf it (by simp)
    have hl := rv.length
    have hai : a ≠ it := fun z => by
      obtain ⟨o1, g1, c1, _⟩ := p.isList
      obtain ⟨o2, g2, c2, _⟩ := hit
      rw [z, g2] at g1
      cases g1
      rw [c2] at c1
      injection c1 with c1
      exact absurd c1 (by decide)
    have D := Draws.list (prog := X.prog) (w := X.w) (A := X.A.in1) (by simp [I.ok.hd hc]) it a hai its.toArray
    have en : its.toArray.size = i := by
      rw [List.size_toArray]
      omega
    exact wpAny_pyNext_enum_endD D he (by rw [en]; exact ⟨hit, p.isList⟩) fun h' eb => ⟨rfl, I.turned (t' := s.toks) (fun b o hb q => eb b o hb q) f0 f1 f3 f4 f5⟩
  self := fun A i s Q E st h => let ⟨⟨_, he⟩, _⟩ := st; wpAny_pyIter_enum he h
def iEnumK (K : PySem.W.Frag) (k : Int) (te : TE) : TI := fun σ H R => te σ H fun x H1 => ∃ a xs, x = .ref a ∧ SqL K H1 a xs ∧ R (ItK K k a) H1
theorem walk_enumK {K : PySem.W.Frag} {k : Int} {a : Addr} {xs : List V} : Walk (ItK K k a) xs.length (fun H => SqL K H a xs) (YPair (fun i => some (.int (k + (i : Nat)))) (fun i => xs[i]?)) := by
  refine ⟨fun i _ hi q => ⟨xs, xs[i], q, by simp [hi]⟩, fun _ q => ⟨xs, q, rfl⟩, fun i H v H' _ q y => ?_⟩
  obtain ⟨T, x, h1, h2, h3, h4⟩ := y
  exact ⟨T, .int (k + (i : Nat)), x, h1, h2, h3, rfl, h4 xs q⟩
theorem type_kw {M : Model} {A : Around} {E : Value → Shared → Prop} {s : Shared} {pos : Pos} {T : String} {first : List Value} {args : List (Bool × Sem Value)} {keywords : List (Option Str × Sem Value)} {Q : Value → Shared → Prop}
    (hplain : args.any (·.1) = false) (hkw : keywords.any (·.1.isNone) = false) (h : wpAny M A (evalArgs (.type T) true args keywords) (fun a s₁ => wpAny M A (call (.type T) (first ++ a.pos) a.kw) Q E s₁) E s) : wpAny M A (callWith pos (.type T) first args keywords) Q E s := by
  unfold callWith
  refine wpAny_bind (wpAny_holding (wpAny_mono h (fun a s₁ h₁ => wpAny_bind (wpAny_standAt ?_)) fun _ _ x => x))
  simp only [hplain, hkw, Bool.or_false]
  refine wpAny_bind (wpAny_pure ?_)
  exact wpAny_bind (wpAny_mono h₁ (fun r s₂ hr => wpAny_bind (wpAny_holding (wpAny_point (wpAny_pure hr)))) fun _ _ x => x)
theorem call_kw {M : Model} {A : Around} {E : Value → Shared → Prop} {s : Shared} {env : Env} {func : Expr} {args : List Expr} {kws : List Keyword} {pos : Pos} {Q : Value → Shared → Prop}
    (h : wpAny M A (eval func env) (fun f s₁ => wpAny M A (callWith pos f [] (backTo pos (starEach args env)) (backToKw pos (keywordEach kws env))) Q E s₁) E s)
    (he : eval (.Call func args kws pos) env = (do callWith pos (← eval func env) [] (backTo pos (starEach args env)) (backToKw pos (keywordEach kws env)))) : wpAny M A (eval (.Call func args kws pos) env) Q E s := by
  rw [he]
  exact wpAny_bind h
theorem pi_enumKw {X : Cx} {e c : Expr} {te : TE} {k : Int} {p pos tpos kp : Pos} {elts : List Expr} {kk : Nat} (hg : Gl X "enumerate") (hm : X.mg "enumerate" = none) (ha : PE X e te) (hk : PE X c (tC (.int k))) (hk0 : -(2 ^ 63) ≤ k) (hk1 : k < 2 ^ 63)
    (hs : starEach [e] X.env = (false, eval e X.env) :: starEach [] X.env := by rfl) (hp : (backTo pos (starEach [e] X.env)).any (·.1) = false := by rfl)
    (hall : (backToKw pos (keywordEach [⟨some "start", c, kp⟩] X.env)).all (·.1.isSome) = true := by rfl) (hkw : (backToKw pos (keywordEach [⟨some "start", c, kp⟩] X.env)).any (·.1.isNone) = false := by rfl)
    (he : eval (.Call (.Name "enumerate" p) [e] [⟨some "start", c, kp⟩] pos) X.env = (do callWith pos (← eval (.Name "enumerate" p) X.env) [] (backTo pos (starEach [e] X.env)) (backToKw pos (keywordEach [⟨some "start", c, kp⟩] X.env))) := by rfl) :
    PI X (.Tuple elts kk tpos) (.Call (.Name "enumerate" p) [e] [⟨some "start", c, kp⟩] pos) (iEnumK X.K k te) := by
  refine ⟨fun pins s σ H R I h => ?_⟩
  refine call_kw (ld_blt I hg hm boot_enumerate ?_) he
  refine type_kw hp hkw (evalArgs_kw2 hall (PyProof.Rows.args_cons (thn (ha.run pins s σ H _ I h) fun v s1 ⟨x, H1, I1, r1, q1⟩ => PyProof.Rows.args_nil ?_) hs) hs)
  refine kwAll_cons (thn (hk.run pins s1 σ H1 (fun y H2 => y = .int k ∧ H2 = H1) I1 ⟨rfl, rfl⟩) fun v2 s2 ⟨y, H2, I2, r2, q2⟩ => kwAll_nil ?_)
  obtain ⟨rfl, rfl⟩ := q2
  obtain ⟨tk, rfl⟩ := r2
  obtain ⟨a, xs, rfl, hq, q⟩ := q1
  cases r1
  obtain ⟨its, rv, p', hz⟩ := I2.list hq
  show wpAny _ _ (call (.type "enumerate") [.ref a] [(Str.ofString "start", .int k tk)]) _ _ s2
  refine enum_begins_start (begins_list a its.toArray) p'.isList hk0 hk1 fun h' he hit hsz hkp => wpAny_pyIter_enum he ?_
  have I3 : Inv X pins σ H2 { s2 with heap := h' } := I2.kept (t' := s2.toks) hkp
  refine ⟨s2.heap.objs.size + 1, [s2.heap.objs.size + 1, s2.heap.objs.size], _, _, H2, rfl, I3, turn_enumK k a (s2.heap.objs.size + 1) s2.heap.objs.size, ⟨⟨.none, ?_⟩, ⟨_, hit, rfl, rfl⟩, Nat.succ_ne_self _⟩, fun b hb => ?_, q⟩
  · have e1 : k + ((0 : Nat) : Int) = k := by omega
    rw [e1]
    exact he
  · have e' : b = s2.heap.objs.size + 1 ∨ b = s2.heap.objs.size := by simpa using hb
    have hle : s2.heap.objs.size ≤ b := by
      rcases e' with z | z
      · rw [z]; exact Nat.le_add_right _ _
      · rw [z]; exact Nat.le_refl _
    exact I2.fpOk hle (I2.hok.fresh hle)
end Er
set_option Elab.async false
set_option linter.all false
set_option maxRecDepth 100000
set_option maxHeartbeats 4000000
/-! enumerate of a tuple; a tuple times a number. -/
namespace Er
open PySem PySem.Spec PyProof.Rows L2
/-- the tuple at a, each item in a new pair -/
def ItT (K : PySem.W.Frag) (a : Addr) : It :=
  ⟨fun i H => ∃ (xs : List V) (x : V), SqT K H a xs ∧ xs[i]? = some x, fun i H v H' => ∃ T x, v = .ref T ∧ H T = none ∧ H' = upd H T (.tup [.int (i : Nat), x]) ∧ ∀ xs, SqT K H a xs → xs[i]? = some x, fun i H => ∃ xs : List V, SqT K H a xs ∧ xs.length = i⟩
theorem turn_enumT {P : Program} {w : World} {K : PySem.W.Frag} {elts : List Expr} {kk : Nat} {tpos : Pos} (a e it : Addr) :
    Turn P w K (.Tuple elts kk tpos) (ItT K a) [e, it] e (fun i h => (∃ old, IsEnum h e it (((i : Nat) : Int)) old) ∧ h.IsTupleIter it a i ∧ e ≠ it) where
  mem := by simp
  obj := fun i h st b hb => by
    obtain ⟨⟨old, he⟩, ⟨o, ho, hc, hd⟩, _⟩ := st
    have e' : b = e ∨ b = it := by simpa using hb
    rcases e' with z | z
    · rw [z]; exact ⟨_, he, fun v q => nomatch q⟩
    · rw [z]; exact ⟨o, ho, fun v q => by rw [hd] at q; cases q⟩
  keep := fun i h h' st kp => let ⟨⟨old, he⟩, hi, hne⟩ := st; ⟨⟨old, kp e (by simp) _ he⟩, hi.at fun o q => kp it (by simp) o q, hne⟩
  item := by
    intro X hP hw hK hc i pins s σ H E I hf st hg
    subst hP hw hK
    obtain ⟨⟨old, he⟩, hit, hne⟩ := st
    obtain ⟨xs, x, hq, hx⟩ := hg
    obtain ⟨its, rv, p, hz⟩ := I.tuple hq
    obtain ⟨u, hu, ru⟩ := rv.get hx
    have hel : e < s.heap.objs.size := Heap.lt_size he
    have hil : it < s.heap.objs.size := by obtain ⟨_, q, _⟩ := hit; exact Heap.lt_size q
    have hai : a ≠ it := fun z => by
      obtain ⟨o1, g1, c1, _⟩ := p
      obtain ⟨o2, g2, c2, _⟩ := hit
      rw [z, g2] at g1
      cases g1
      rw [c2] at c1
      injection c1 with c1
      exact absurd c1 (by decide)
    have hea : e ≠ a := fun z => by
      obtain ⟨o1, g1, c1, _⟩ := p
      rw [← z, he] at g1
      cases g1
      injection c1 with c1
      exact absurd c1 (by decide)
    have D := Draws.tuple (prog := X.prog) (w := X.w) (A := X.A.in1) (by simp [I.ok.hd hc]) it a hai its.toArray
    have hlt : i < its.toArray.size := by
      have := (List.getElem?_eq_some_iff.mp hu).1
      simpa using this
    refine wpAny_pyNext_enum_itemC D he ⟨hit, p⟩ hlt hne (by simp [hne, hea]) fun x' h' tk hP ho hs' hT hsz hk => ?_
    have ex : x' = u := by
      have h1 : its[i]? = some x' := by simpa using hP
      exact Option.some.inj (h1.symm.trans hu)
    subst ex
    refine ⟨_, rfl, wpAny_letOwnedTupleGo_enum (s := { s with heap := h', toks := tk + 1 }) ho fun h'' he' sb => ?_⟩
    have hT2 : h''.get? s.heap.objs.size = some { cls := .type "tuple", data := .seq #[.int (i : Nat) tk, x'] } := (sb.2 _ (Nat.ne_of_gt hel)).trans hT
    have new : ObjOk X.prog X.w (upd H s.heap.objs.size (.tup [.int (i : Nat), x])) h'' s.heap.objs.size (.tup [.int (i : Nat), x]) :=
      ⟨by show 2 ≤ sizeLine; decide, [.int (i : Nat) tk, x'], .cons ⟨_, rfl⟩ (.cons ru .nil), ⟨_, hT2, rfl, _, rfl⟩⟩
    have I1 : Inv X pins σ (upd H s.heap.objs.size (.tup [.int (i : Nat), x])) { s with heap := h'', toks := tk + 1 } :=
      I.turnedNew (ch := [e, it]) (fun b ob hb q => (sb.2 b (fun z => hb (by simp [z]))).trans (hk b ob (fun z => hb (by simp [z])) (fun z => hb (by simp [z])) q)) hf (Nat.le_refl _) new
    refine ⟨.ref s.heap.objs.size, _, I1, rfl, ⟨_, x, rfl, I.hok.fresh (Nat.le_refl _), rfl, fun ys hy => by rw [I.tuple_inj hy hq]; exact hx⟩, ⟨⟨x', ?_⟩, hs'.1.at fun o q => (sb.2 it (Ne.symm hne)).trans q, hne⟩, fun b hb => ?_⟩
    · exact he'
    · have hb' : b < s.heap.objs.size := by
        have e' : b = e ∨ b = it := by simpa using hb
        rcases e' with z | z
        · rw [z]; exact hel
        · rw [z]; exact hil
      rw [upd_ne (Nat.ne_of_lt hb')]
      exact (hf b hb).1
  done := by
    intro X hP hw hK hc i pins s σ H E I hf st hg
    subst hP hw hK
    obtain ⟨⟨old, he⟩, hit, hne⟩ := st
    obtain ⟨xs, hq, hx⟩ := hg
    obtain ⟨its, rv, p, hz⟩ := I.tuple hq
    obtain ⟨f0, f1, f2, f3, f4, f5⟩ := hf it (by simp)
    have hl := rv.length
    have hai : a ≠ it := fun z => by
      obtain ⟨o1, g1, c1, _⟩ := p
      obtain ⟨o2, g2, c2, _⟩ := hit
      rw [z, g2] at g1
      cases g1
      rw [c2] at c1
      injection c1 with c1
      exact absurd c1 (by decide)
    have D := Draws.tuple (prog := X.prog) (w := X.w) (A := X.A.in1) (by simp [I.ok.hd hc]) it a hai its.toArray
    have en : its.toArray.size = i := by
      rw [List.size_toArray]
      omega
    exact wpAny_pyNext_enum_endD D he (by rw [en]; exact ⟨hit, p⟩) fun h' eb => ⟨rfl, I.turned (t' := s.toks) (fun b o hb q => eb b o hb q) f0 f1 f3 f4 f5⟩
  self := fun A i s Q E st h => let ⟨⟨_, he⟩, _⟩ := st; wpAny_pyIter_enum he h

/-- enumerate(v): iter(v) is the new object o -/
theorem enum_of {v : Value} {o : Obj} {G : Heap → Prop} (B : Begins v o G) :
    Meets (Builtin.«enumerate.__new__» ⟨[.type "enumerate", v], []⟩) (fun _ R s => G s.heap ∧ R (.ok (.ret (.ref (s.heap.push o).objs.size)))
      ⟨(s.heap.push o).push { cls := .type "enumerate", data := .fields #[.none, .bool false, .ref s.heap.objs.size, rawInt 0, .none, .none] }, s.gens, s.drawn, s.toks, s.os⟩) :=
  .of_wp fun P w A R st h => by
    obtain ⟨hp, gn, dr, tk, os⟩ := st
    obtain ⟨hG, fin⟩ := h
    have isE := sub_enumerate
    have beg : ∀ {A2 : Around} {E2 : Value → Shared → Prop} {Q2 : Value → Shared → Prop}, Q2 (.ref hp.objs.size) ⟨hp.push o, gn, dr, tk, os⟩ → wpAny (model P w) A2 (pyIter v) Q2 E2 ⟨hp, gn, dr, tk, os⟩ := fun z => B.iter P w _ _ ⟨hp, gn, dr, tk, os⟩ _ hG z
    wp_walk using beg
    refine wpAny_stack_any fun frs => wpAny_pure ?_
    split
    · rename_i cl _ _ _ _ _
      cases (cl == Value.type "enumerate") <;> (wp_walk using beg; exact ⟨_, rfl, fin⟩)
    · wp_walk using beg
      exact ⟨_, rfl, fin⟩
theorem call_enum_of {P : Program} {w : World} {A : Around} {E : Value → Shared → Prop} {s : Shared} {v : Value} {o : Obj} {G : Heap → Prop} {Q : Value → Shared → Prop} (B : Begins v o G) (hG : G s.heap)
    (h : ∀ h2, IsEnum h2 (s.heap.objs.size + 1) s.heap.objs.size 0 .none → h2.get? s.heap.objs.size = some o → (∀ b u, s.heap.get? b = some u → h2.get? b = some u) → Q (.ref (s.heap.objs.size + 1)) { s with heap := h2 }) :
    wpAny (model P w) A (call (.type "enumerate") [v]) Q E s := by
  refine callType_new F.called_enumerate (by decide) (F.typeCall_enumerate_1 _) (F.newCall_enumerate_1 _) (fun ob => F.args_object_init_2 ob _) F.entry_enumerate_new (enum_of B) ⟨hG, ?_⟩
  have sz : (s.heap.push o).objs.size = s.heap.objs.size + 1 := Heap.size_push ..
  have he : IsEnum ((s.heap.push o).push { cls := .type "enumerate", data := .fields #[.none, .bool false, .ref s.heap.objs.size, rawInt 0, .none, .none] }) (s.heap.objs.size + 1) s.heap.objs.size 0 .none := by
    have z := Heap.get?_push_size (s.heap.push o) (o := { cls := .type "enumerate", data := .fields #[.none, .bool false, .ref s.heap.objs.size, rawInt 0, .none, .none] }) rfl
    rw [sz] at z
    exact z
  show _ ∧ _
  rw [sz]
  exact ⟨⟨_, he, rfl⟩, h _ he (Heap.get?_push_of_some _ (Heap.get?_push_size _ B.free)) fun b u q => Heap.get?_push_of_some _ (Heap.get?_push_of_some _ q)⟩
def iEnumT (K : PySem.W.Frag) (ta : TA) : TI := fun σ H R => ta σ H fun vs H1 => ∃ a xs, vs = [.ref a] ∧ SqT K H1 a xs ∧ R (ItT K a) H1
theorem pi_enumT {X : Cx} {e : Expr} {ta : TA} {p pos tpos : Pos} {elts : List Expr} {kk : Nat} (hg : Gl X "enumerate") (hm : X.mg "enumerate" = none) (ha : PA X [e] ta) (hs : starEach [e] X.env = [(false, eval e X.env)] := by rfl) :
    PI X (.Tuple elts kk tpos) (.Call (.Name "enumerate" p) [e] [] pos) (iEnumT X.K ta) := by
  refine ⟨fun pins s σ H R I h => Call_ (ld_blt I hg hm boot_enumerate (PyProof.Rows.callWith_type1 (thn (ha.run pos pins s σ H _ I h) fun us s1 got => ?_) hs rfl))⟩
  obtain ⟨vs, H1, I1, rv, a, xs, rfl, hq, q⟩ := got
  obtain ⟨u, rfl, ru⟩ := vals1 rv
  cases ru
  obtain ⟨its, r, p2, hz⟩ := I1.tuple hq
  refine call_enum_of (begins_tuple a its.toArray) p2 fun h2 he hit kp => wpAny_pyIter_enum he ?_
  have I2 : Inv X pins σ H1 { s1 with heap := h2 } := I1.kept (t' := s1.toks) kp
  refine ⟨s1.heap.objs.size + 1, [s1.heap.objs.size + 1, s1.heap.objs.size], _, _, H1, rfl, I2, turn_enumT a (s1.heap.objs.size + 1) s1.heap.objs.size, ⟨⟨.none, he⟩, ⟨_, hit, rfl, rfl⟩, Nat.succ_ne_self _⟩, fun b hb => ?_, q⟩
  have two : b = s1.heap.objs.size + 1 ∨ b = s1.heap.objs.size := by simpa using hb
  have up : s1.heap.objs.size ≤ b := two.elim (fun z => z ▸ Nat.le_succ _) fun z => z ▸ Nat.le_refl _
  exact I1.fpOk up (I1.hok.fresh up)
theorem walk_enumT {K : PySem.W.Frag} {a : Addr} {xs : List V} : Walk (ItT K a) xs.length (fun H => SqT K H a xs) (YPair (fun i => some (.int (i : Nat))) (fun i => xs[i]?)) := by
  refine ⟨fun i _ hi q => ⟨xs, xs[i], q, by simp [hi]⟩, fun _ q => ⟨xs, q, rfl⟩, fun i H v H' _ q y => ?_⟩
  obtain ⟨T, x, h1, h2, h3, h4⟩ := y
  exact ⟨T, .int (i : Nat), x, h1, h2, h3, rfl, h4 xs q⟩
/-- t * n, n at least one -/
def rRepS (K : PySem.W.Frag) : R2 := fun x y H Q => ∃ l k xs, x = .ref l ∧ y = .int k ∧ SqT K H l xs ∧ xs ≠ [] ∧ 1 ≤ k ∧ k ≤ 1000 ∧ xs.length ≤ 1000 ∧ ∀ p H', Same H H' → SqT K H' p (List.replicate k.toNat xs).flatten → Q (.ref p) H'
theorem tuple_mul1 (l : Addr) (its : Array Value) (n : Nat) (dd : Option Addr) (sl : Array (Option Value)) (u : Tok) (hi : its.isEmpty = false) :
    Meets (Builtin.«tuple.__mul__» ⟨[.ref l, .int 1 u], []⟩) (fun _ R s => s.heap.get? l = some { cls := .type "tuple", dict := dd, data := .seq its n, slots := sl } ∧ R (.ok (.ret (.ref l))) s) :=
  .of_wp fun P w A R st h => by
    obtain ⟨hp, gn, dr, tk, os⟩ := st
    obtain ⟨ho, fin⟩ := h
    have ix := AutoSeq1.idx_int
    wp_walk using AutoSeq1.wpAny_loadPart' ho
    repeat (first
      | (refine wpAny_ite_false (by decide) ?_; wp_walk using AutoSeq1.wpAny_loadPart' ho)
      | (refine wpAny_ite_true (by simp) ?_; wp_walk using AutoSeq1.wpAny_loadPart' ho))
    all_goals exact ⟨_, rfl, fin⟩
theorem int_rmulT (l : Addr) (its : Array Value) (n : Nat) (dd : Option Addr) (sl : Array (Option Value)) (u : Tok) :
    Meets (Builtin.«int.__rmul__» ⟨[.int 1 u, .ref l], []⟩) (fun _ R s => s.heap.get? l = some { cls := .type "tuple", dict := dd, data := .seq its n, slots := sl } ∧ R (.ok (.ret Value.notImplemented)) s) := int_rmul_tuple 1 u l its n dd sl
theorem op_repS {X : Cx} : OpR X (binaryOp .Mult) (rRepS X.K) := by
  intro pins s σ H x y v u Q I rx ry h
  obtain ⟨l, k, xs, rfl, rfl, hT, ne, h1, h2, hz, q⟩ := h
  by_cases k1 : k = 1
  · subst k1
    have e : (List.replicate (1 : Int).toNat xs).flatten = xs := by simp
    rw [e] at q
    cases rx
    obtain ⟨t, rfl⟩ := ry
    obtain ⟨its, r, ⟨⟨cl, dd, dt, sl⟩, ho, hc, n, hd⟩, _⟩ := I.tuple hT
    simp only at hc hd
    subst hc hd
    have hi : its.toArray.isEmpty = false := by
      cases its with
      | nil => exact absurd (List.eq_nil_of_length_eq_zero r.length) ne
      | cons a b => rfl
    refine wpAny_binaryOp_repeat_ref (T := "tuple") (U := "int") (by decide) ⟨_, ho, rfl⟩ (fun s' => typeIs_int s' 1 t) noFill_tuple_mul F.fills_int_mul F.slot_int_rmul repeat_tuple F.slot_int_index.lookup
      (call_meets F.slot_int_rmul (typeIs_int s 1 t) F.entry_int_rmul (F.args_int_rmul_2 _ _) (int_rmulT l its.toArray n dd sl t) ⟨ho, rfl, ⟨_, ho, rfl⟩, ?_⟩)
    exact call_meets F.slot_tuple_mul ⟨_, ho, rfl⟩ F.entry_tuple_mul (F.args_tuple_mul_2 _ _) (tuple_mul1 l its.toArray n dd sl t hi) ⟨ho, .ref l, H, I, rfl, q l H (Same.refl _) hT⟩
  · exact op_repT pins s σ H _ _ v u Q I rx ry ⟨l, k, xs, rfl, rfl, hT, ne, by omega, h2, hz, fun p np => q p _ (same_new np) (SqT.of upd_same)⟩
end Er
set_option Elab.async false
set_option linter.all false
set_option maxRecDepth 100000
set_option maxHeartbeats 4000000
/-! A whole text read: the steps, the samples, the levels, line by line. -/
namespace Er
open PySem PySem.Spec PyProof.Rows L2
/-- the words of a line: all but the last one, the last one -/
abbrev LW := List Str × Str
abbrev RS := List StepT × List SampT × List (List Int)
def levelOf (vn : List Str) (z : RS) (l : LW) : Option (List Int) := nextL vn z.1 (z.2.2.getLastD []) l.1 (intOfS l.2)
def sampR (vn : List Str) (z : RS) (l : LW) : Option RS :=
  if sampB vn z.1.length (sampOf l.1 l.2) = true ∧ z.2.1.length < 6 ∧ sampOf l.1 l.2 ∉ z.2.1 then some (z.1, z.2.1 ++ [sampOf l.1 l.2], z.2.2) else none
def lineR (vn : List Str) (z : RS) (l : LW) : Option RS := match levelOf vn z l with
  | some v => if z.1.length < 14 ∧ z.2.1 = [] then some (z.1 ++ [(l.1, intOfS l.2)], z.2.1, z.2.2 ++ [v]) else sampR vn z l
  | none => sampR vn z l
def linesR (vn : List Str) : Nat → List LW → RS → Sum Nat RS
  | _, [], z => .inr z
  | n, l :: ls, z => match lineR vn z l with
    | none => .inl n
    | some z2 => linesR vn (n + 1) ls z2
def readA (vn : List Str) (L : List LW) : Sum Nat RS := linesR vn 2 L ([], [], [List.replicate vn.length 0])
/-! ### as they lie in the heap -/
section
variable {K : PySem.W.Frag} {H H' : Hp}
def KeepT (K : PySem.W.Frag) (H H' : Hp) : Prop := ∀ r xs, SqT K H r xs → SqT K H' r xs
theorem KeepT.of (s : Same H H') : KeepT K H H' := fun _ _ h => sameT s h
theorem KeepT.trans {H2 : Hp} (a : KeepT K H H') (b : KeepT K H' H2) : KeepT K H H2 := fun r xs h => b r xs (a r xs h)
theorem KeepT.put {p : Addr} {ys : List V} {o : HO} (h : H p = some (.lst ys)) : KeepT K H (upd H p o) := fun r xs q => by
  rcases q with (q | ⟨u, q⟩) | q
  · exact .inl (.inl ((upd_ne (fun z => by rw [z, h] at q; cases q)).trans q))
  · exact .inl (.inr ⟨u, (upd_ne (fun z => by rw [z, h] at q; cases q)).trans q⟩)
  · exact .inr q
theorem StepsAt.keep {vs : List V} {st : List StepT} (k : KeepT K H H') (h : StepsAt K H vs st) : StepsAt K H' vs st := ⟨h.1, fun i z hz => let ⟨r, h1, h2⟩ := h.2 i z hz; ⟨r, h1, k _ _ h2⟩⟩
theorem StepsAt.nil : StepsAt K H [] [] := ⟨rfl, fun i z hz => by simp at hz⟩
theorem StepsAt.snoc {vs : List V} {st : List StepT} {r : Addr} {z : StepT} (h : StepsAt K H vs st) (q : SqT K H r (wv z.1 z.2)) : StepsAt K H (vs ++ [.ref r]) (st ++ [z]) := by
  refine ⟨by rw [List.length_append, List.length_append, h.1]; rfl, fun i y hy => ?_⟩
  by_cases hi : i < st.length
  · rw [List.getElem?_append_left hi] at hy
    rw [List.getElem?_append_left (by rw [h.1]; exact hi)]
    exact h.2 i y hy
  · rw [List.getElem?_append_right (by omega)] at hy
    have hz : i - st.length = 0 := by
      have z := (List.getElem?_eq_some_iff.mp hy).1
      simp at z
      omega
    rw [hz] at hy
    cases Option.some.inj hy
    rw [List.getElem?_append_right (by rw [h.1]; omega), h.1, hz]
    exact ⟨r, rfl, q⟩
def SampsAt (K : PySem.W.Frag) (H : Hp) (vs : List V) (sa : List SampT) : Prop := Paired (SampV K H) vs sa
theorem SampV.keep {v : V} {z : SampT} (k : KeepT K H H') (h : SampV K H v z) : SampV K H' v z := by
  rcases z with _ | ⟨x, o1, ws, o2⟩
  · exact h
  · obtain ⟨a, b, e, h1, h2⟩ := h
    exact ⟨a, b, e, k _ _ h1, k _ _ h2⟩
theorem SampsAt.keep (k : KeepT K H H') : ∀ {vs : List V} {sa : List SampT}, SampsAt K H vs sa → SampsAt K H' vs sa
  | _, _, .nil => .nil
  | _, _, .cons h t => .cons (h.keep k) (SampsAt.keep k t)
theorem SampsAt.snoc {v : V} {z : SampT} (q : SampV K H v z) : ∀ {vs : List V} {sa : List SampT}, SampsAt K H vs sa → SampsAt K H (vs ++ [v]) (sa ++ [z])
  | _, _, .nil => .cons q .nil
  | _, _, .cons h t => .cons h (SampsAt.snoc q t)
theorem SampsAt.len : ∀ {vs : List V} {sa : List SampT}, SampsAt K H vs sa → vs.length = sa.length
  | _, _, .nil => rfl
  | _, _, .cons _ t => congrArg (· + 1) (SampsAt.len t)
def LevV (K : PySem.W.Frag) (H : Hp) (v : V) (l : List Int) : Prop := ∃ r, v = .ref r ∧ SqT K H r (iV l)
def LevsAt (K : PySem.W.Frag) (H : Hp) (vs : List V) (lv : List (List Int)) : Prop := Paired (LevV K H) vs lv
theorem LevsAt.keep (k : KeepT K H H') : ∀ {vs : List V} {lv : List (List Int)}, LevsAt K H vs lv → LevsAt K H' vs lv
  | _, _, .nil => .nil
  | _, _, .cons ⟨r, e, h⟩ t => .cons ⟨r, e, k _ _ h⟩ (LevsAt.keep k t)
theorem LevsAt.snoc {v : V} {l : List Int} (q : LevV K H v l) : ∀ {vs : List V} {lv : List (List Int)}, LevsAt K H vs lv → LevsAt K H (vs ++ [v]) (lv ++ [l])
  | _, _, .nil => .cons q .nil
  | _, _, .cons h t => .cons h (LevsAt.snoc q t)
theorem LevsAt.len : ∀ {vs : List V} {lv : List (List Int)}, LevsAt K H vs lv → vs.length = lv.length
  | _, _, .nil => rfl
  | _, _, .cons _ t => congrArg (· + 1) (LevsAt.len t)
theorem LevsAt.last {lv : List (List Int)} {l : List Int} : ∀ {vs : List V}, LevsAt K H vs (lv ++ [l]) → ∃ us v, vs = us ++ [v] ∧ LevV K H v l := by
  induction lv with
  | nil =>
    intro vs h
    have h2 : Paired (LevV K H) vs [l] := h
    cases h2 with
    | cons a t =>
      cases t
      exact ⟨[], _, rfl, a⟩
  | cons x lv ih =>
    intro vs h
    have h2 : Paired (LevV K H) vs (x :: (lv ++ [l])) := h
    cases h2 with
    | cons a t =>
      obtain ⟨us, v, e, q⟩ := ih t
      exact ⟨_ :: us, v, by rw [e]; rfl, q⟩
/-! ### samples as data -/
def wD (ws : List Str) (o : Option Int) : List PyData := ws.map PyData.str ++ [optD o]
def sampD : SampT → PyData
  | none => .none
  | some (k, o1, ws, o2) => .tuple [.str k, optD o1, .tuple (wD ws o2)]
theorem dp_opt (o : Option Int) : Dp K H (optV o) (optD o) := by
  cases o with
  | none => exact .non
  | some i => exact .int i
theorem dp_wv : ∀ (ws : List Str) (o : Option Int), DpAll K H (wv ws o) (wD ws o)
  | [], o => .cons (dp_opt o) .nil
  | w :: ws, o => .cons (.str w) (dp_wv ws o)
theorem dp_samp {v : V} {z : SampT} (h : SampV K H v z) : Dp K H v (sampD z) := by
  rcases z with _ | ⟨x, o1, ws, o2⟩
  · cases h
    exact .non
  · obtain ⟨a, b, rfl, h1, h2⟩ := h
    exact .tup h1 (.cons (.str _) (.cons (dp_opt o1) (.cons (.tup h2 (dp_wv ws o2)) .nil)))
theorem dp_samps : ∀ {vs : List V} {sa : List SampT}, SampsAt K H vs sa → DpAll K H vs (sa.map sampD)
  | _, _, .nil => .nil
  | _, _, .cons h t => .cons (dp_samp h) (dp_samps t)
theorem eqv_opt (o o' : Option Int) : PyData.eqv (optD o) (optD o') = decide (o = o') := by
  cases o with
  | none => cases o' <;> simp [optD, PyData.eqv]
  | some i =>
    cases o' with
    | none => simp [optD, PyData.eqv]
    | some j =>
      simp only [optD, PyData.eqv]
      by_cases e : i = j
      · subst e
        simp
      · rw [decide_eq_false fun z => e (Option.some.inj z)]
        exact beq_eq_false_iff_ne.mpr e
theorem eqv_strD (a b : Str) : PyData.eqv (.str a) (.str b) = decide (a = b) := by
  simp only [PyData.eqv]
  by_cases e : a = b
  · subst e
    rw [decide_eq_true rfl]
    exact beq_self_eq_true a
  · rw [decide_eq_false e]
    exact beq_eq_false_iff_ne.mpr e
theorem eqv_opt_str (o : Option Int) (w : Str) : PyData.eqv (optD o) (.str w) = false := by cases o <;> simp only [optD, PyData.eqv]
theorem eqv_str_opt (o : Option Int) (w : Str) : PyData.eqv (.str w) (optD o) = false := by cases o <;> simp only [optD, PyData.eqv]
theorem wD_nil (o : Option Int) : wD [] o = [optD o] := rfl
theorem wD_cons (w : Str) (ws : List Str) (o : Option Int) : wD (w :: ws) o = .str w :: wD ws o := rfl
theorem eqv_wD : ∀ (ws ws' : List Str) (o o' : Option Int), PyData.eqvAll (wD ws o) (wD ws' o') = decide (ws = ws' ∧ o = o')
  | [], [], o, o' => by
    rw [wD_nil, wD_nil]
    simp only [PyData.eqvAll]
    rw [eqv_opt, Bool.and_true]
    simp
  | [], w :: ws, o, o' => by
    rw [wD_nil, wD_cons]
    simp only [PyData.eqvAll]
    rw [eqv_opt_str]
    simp
  | w :: ws, [], o, o' => by
    rw [wD_nil, wD_cons]
    simp only [PyData.eqvAll]
    rw [eqv_str_opt]
    simp
  | w :: ws, w' :: ws', o, o' => by
    rw [wD_cons, wD_cons]
    simp only [PyData.eqvAll]
    rw [eqv_strD, eqv_wD ws ws']
    by_cases e : w = w'
    · subst e
      simp
    · have e2 : ¬ (w :: ws = w' :: ws' ∧ o = o') := fun z => e (List.cons.inj z.1).1
      rw [decide_eq_false e, decide_eq_false e2]
      rfl
theorem eqv_samp : ∀ z z' : SampT, PyData.eqv (sampD z) (sampD z') = decide (z = z')
  | none, none => by simp [sampD, PyData.eqv]
  | none, some (_, _, _, _) => by simp [sampD, PyData.eqv]
  | some (_, _, _, _), none => by simp [sampD, PyData.eqv]
  | some (k, o1, ws, o2), some (k', o1', ws', o2') => by
    simp only [sampD, PyData.eqv, PyData.eqvAll]
    have e0 := eqv_strD k k'
    simp only [PyData.eqv] at e0
    rw [e0, eqv_opt, eqv_wD, Bool.and_true, ← Bool.decide_and, ← Bool.decide_and]
    refine decide_eq_decide.mpr ⟨fun ⟨a, b, c, d⟩ => ?_, fun e => ?_⟩
    · subst a b c d
      rfl
    · cases e
      exact ⟨rfl, rfl, rfl, rfl⟩
theorem any_samp (z : SampT) (sa : List SampT) : ((sa.map sampD).any fun y => PyData.eqv y (sampD z)) = decide (z ∈ sa) := by
  induction sa with
  | nil => rfl
  | cons y sa ih =>
    rw [List.map_cons, List.any_cons, ih, eqv_samp]
    by_cases e : y = z
    · subst e
      simp
    · have e2 : ¬ z = y := fun q => e q.symm
      simp [e, e2]
theorem lay_opt (o : Option Int) : PyData.canLay0 (optD o) = true := by cases o <;> simp [optD, PyData.canLay0]
theorem deep_opt (o : Option Int) : PyData.depth (optD o) ≤ 1 := by cases o <;> simp [optD, PyData.depth]
def WOk (ws : List Str) : Prop := ∀ v ∈ ws, PyData.strOk v = true
def SOk : SampT → Prop
  | none => True
  | some (k, _, ws, _) => PyData.strOk k = true ∧ WOk ws
theorem sok_of {init : List Str} {last : Str} (h : WOk init) : SOk (sampOf init last) := by
  rcases init with _ | ⟨k, _ | ⟨n, mid⟩⟩
  · exact trivial
  · exact trivial
  · exact ⟨h k (List.mem_cons_self ..), fun v hv => h v (List.mem_cons_of_mem _ (List.mem_cons_of_mem _ hv))⟩
theorem lay_wD : ∀ (ws : List Str) (o : Option Int), WOk ws → PyData.canLayAll0 (wD ws o) = true
  | [], o, _ => by
    rw [wD_nil]
    simp only [PyData.canLayAll0, lay_opt, Bool.and_true]
  | w :: ws, o, h => by
    rw [wD_cons]
    simp only [PyData.canLayAll0, PyData.canLay0, lay_wD ws o fun v hv => h v (List.mem_cons_of_mem _ hv), h w (List.mem_cons_self ..), Bool.and_true]
theorem deep_wD : ∀ (ws : List Str) (o : Option Int), PyData.depthAll (wD ws o) ≤ 1
  | [], o => by
    have h := deep_opt o
    rw [wD_nil]
    simp only [PyData.depthAll]
    omega
  | w :: ws, o => by
    have h := deep_wD ws o
    rw [wD_cons]
    simp only [PyData.depthAll, PyData.depth]
    omega
theorem lay_samp : ∀ z : SampT, SOk z → PyData.canLay0 (sampD z) = true
  | none, _ => by simp [sampD, PyData.canLay0]
  | some (k, o1, ws, o2), h => by simp only [sampD, PyData.canLayAll0, PyData.canLay0, lay_wD ws o2 h.2, h.1, lay_opt, Bool.and_true]
theorem deep_samp : ∀ z : SampT, PyData.depth (sampD z) ≤ 5
  | none => by simp [sampD, PyData.depth]
  | some (k, o1, ws, o2) => by
    have h := deep_wD ws o2
    have h1 := deep_opt o1
    simp only [sampD, PyData.depth, PyData.depthAll]
    omega
theorem shaped_samp (z : SampT) (ok : SOk z) : SeqAt.shaped (sampD z) = true := by
  have h := deep_samp z
  show ((sampD z).canLay0 && decide ((sampD z).depth ≤ 64)) = true
  rw [lay_samp z ok, decide_eq_true (by omega)]
  rfl
theorem lay_samps : ∀ sa : List SampT, (∀ z ∈ sa, SOk z) → PyData.canLayAll0 (sa.map sampD) = true
  | [], _ => by simp [PyData.canLayAll0]
  | z :: sa, h => by
    rw [List.map_cons]
    simp only [PyData.canLayAll0, lay_samp z (h z (List.mem_cons_self ..)), lay_samps sa fun y hy => h y (List.mem_cons_of_mem _ hy), Bool.and_true]
theorem deep_samps : ∀ sa : List SampT, PyData.depthAll (sa.map sampD) ≤ 5
  | [] => by simp [PyData.depthAll]
  | z :: sa => by
    have h := deep_samp z
    have h2 := deep_samps sa
    rw [List.map_cons]
    simp only [PyData.depthAll]
    omega
theorem shaped_samps (sa : List SampT) (ok : ∀ z ∈ sa, SOk z) : SeqAt.shaped (.list (sa.map sampD)) = true := by
  have h2 := deep_samps sa
  have h3 : PyData.depth (.list (sa.map sampD)) ≤ 64 := by
    simp only [PyData.depth]
    omega
  have h1 : PyData.canLay0 (.list (sa.map sampD)) = true := by
    simp only [PyData.canLay0]
    exact lay_samps sa ok
  show (PyData.canLay0 (.list (sa.map sampD)) && decide (PyData.depth (.list (sa.map sampD)) ≤ 64)) = true
  rw [h1, decide_eq_true h3]
  rfl
end
/-! ### the promise -/
/-- a text: its first line's words, the words of the others -/
def TextW (x : Str) (k : Str) (ns : List Str) (L : List LW) : Prop := ∃ l0 ls, Txt.split x "\n" = l0 :: ls ∧ x.length ≤ 100000 ∧ ls.length ≤ 1000 ∧ Txt.split l0 " " = k :: ns ∧ l0.length ≤ 100000 ∧ ns.length ≤ 1000 ∧ (∀ w ∈ ns, w.length ≤ 100000) ∧ Paired (fun l w => LineW l w.1 w.2) ls L ∧ ∀ w ∈ L, WOk w.1
def BadA (K : PySem.W.Frag) (H : Hp) (E : XK) (n : Int) : Prop := ∀ d H', Same H H' → H' d = some (.xd [("value", .int n)]) → E (.ref (He.ga K "BadYard")) (some d) H'
def RFit (z : RS) : Prop := z.1.length ≤ 14 ∧ z.2.1.length ≤ 6 ∧ z.2.2.length = z.1.length + 1 ∧ (∀ y ∈ z.1, y.1 ≠ []) ∧ ∀ y ∈ z.2.1, SOk y
def ReadOk (K : PySem.W.Frag) (H : Hp) (a b c d : Addr) (vn : List Str) (z : RS) : Prop := SqT K H a (sV vn) ∧ TupD K H a ∧ ∃ us vs ws, SqT K H b us ∧ StepsAt K H us z.1 ∧ SqT K H c vs ∧ SampsAt K H vs z.2.1 ∧ SqT K H d ws ∧ LevsAt K H ws z.2.2 ∧ RFit z
def AnsR (K : PySem.W.Frag) (H : Hp) (E : XK) (k : Str) (ns : List Str) (L : List LW) (Q : List Str → RS → Prop) : Prop := match vessL k ns with
  | none => BadA K H E 1
  | some vn => match readA vn L with
    | .inl n => BadA K H E n
    | .inr z => Q vn z
theorem vess6 {k : Str} {ns vn : List Str} (h : vessL k ns = some vn) : vn = ns ∧ 1 ≤ vn.length ∧ vn.length ≤ 6 := by
  unfold vessL at h
  split at h
  · next z =>
    cases h
    exact ⟨rfl, z.2.1, z.2.2.1⟩
  · cases h
theorem AnsR.imp {K : PySem.W.Frag} {H : Hp} {E : XK} {k : Str} {ns : List Str} {L : List LW} {Q Q' : List Str → RS → Prop} (h : AnsR K H E k ns L Q) (f : ∀ vn z, vessL k ns = some vn → Q vn z → Q' vn z) : AnsR K H E k ns L Q' := by
  unfold AnsR at h ⊢
  cases e : vessL k ns with
  | none =>
    rw [e] at h
    exact h
  | some vn =>
    rw [e] at h
    cases e2 : readA vn L with
    | inl n =>
      simp only [e2] at h ⊢
      exact h
    | inr z =>
      simp only [e2] at h ⊢
      exact f vn z e h
def spRead (K : PySem.W.Frag) : Sp := fun vs H Q E => ∃ x k ns L, vs = [.str x] ∧ TextW x k ns L ∧
  AnsR K H E k ns L fun vn z => ∀ p a b c d H', Same H H' → SqT K H' p [.ref a, .ref b, .ref c, .ref d] → ReadOk K H' a b c d vn z → Q (.ref p) H'
/-- raise C(v) -/
theorem i_raise {K : PySem.W.Frag} {C fI : Addr} {ta : TA} {σ : L2.St} {H : Hp} {W : XK} {v : V} (T : ErC K C fI) (hv : ∀ (Q : List V → Hp → Prop), Q [v] H → ta σ H Q) (k : ∀ d H', Same H H' → H' d = some (.xd [("value", v)]) → W (.ref C) (some d) H') :
    tMkO C (spInit K) [] ta σ H W := by
  refine hv _ ⟨(by decide : 1 ≤ 1000), fun a na => ⟨a, C, fI, v, rfl, T, upd_same, fun d nd ne => ⟨rfl, d, [("value", v)], upd_same, ?_, ?_, ?_⟩⟩⟩
  · rw [upd_ne ne, upd_same]
  · rw [upd_ne ne] at nd
    exact nd
  · have nd2 : H d = none := by
      rw [upd_ne ne] at nd
      exact nd
    refine k d _ (fun b o e => ?_) upd_same
    have hba : b ≠ a := fun z => by
      rw [z, na] at e
      cases e
    have hbd : b ≠ d := fun z => by
      rw [z, nd2] at e
      cases e
    rw [upd_ne hbd, del_ne hba, upd_ne hba, upd_ne hbd, upd_ne hba]
    exact e
end Er
namespace Er
open PySem PySem.Spec PyProof.Rows L2
def spDrawnT (K : PySem.W.Frag) : Sp := fun vs H Q _ => ∃ a xs st, vs = [.ref a] ∧ SqT K H a xs ∧ StepsAt K H xs st ∧ st.length ≤ 1000 ∧ (∀ s ∈ st, s.1 ≠ []) ∧ ∀ p H', Same H H' → H' p = some (.lst (nV (drawnTo st st.length))) → Q (.ref p) H'
theorem paired_at {α β : Type} {R : α → β → Prop} : ∀ {xs : List α} {ys : List β} {i : Nat} {x : α}, Paired R xs ys → xs[i]? = some x → ∃ y, ys[i]? = some y ∧ R x y
  | _, _, _, _, .nil, h => by simp at h
  | _, _, 0, _, .cons a t, h => by
    simp at h
    exact ⟨_, rfl, h ▸ a⟩
  | _, _, i + 1, _, .cons a t, h => by
    obtain ⟨y, h1, h2⟩ := paired_at (i := i) t (by simpa using h)
    exact ⟨y, by simpa using h1, h2⟩
theorem drop_at {α : Type} {L : List α} {i : Nat} {w : α} (h : L[i]? = some w) : L.drop i = w :: L.drop (i + 1) := by
  obtain ⟨hi, e⟩ := List.getElem?_eq_some_iff.mp h
  rw [List.drop_eq_getElem_cons hi, e]
theorem eqv_empty (sa : List SampT) : PyData.eqv (.list (sa.map sampD)) (.list []) = decide (sa = []) := by
  cases sa with
  | nil => simp [PyData.eqv, PyData.eqvAll]
  | cons z sa => simp [PyData.eqv, PyData.eqvAll]
theorem shaped_empty : SeqAt.shaped (.list []) = true := shaped_samps [] fun z hz => nomatch hz
theorem linesR_cons (vn : List Str) (n : Nat) (l : LW) (ls : List LW) (z : RS) : linesR vn n (l :: ls) z = match lineR vn z l with
    | none => .inl n
    | some z2 => linesR vn (n + 1) ls z2 := rfl
/-- which way a line goes -/
def isStepL (vn : List Str) (st : List StepT) (sa : List SampT) (lc : List Int) (w : LW) : Bool := (nextL vn st lc w.1 (intOfS w.2)).isSome && (decide (st.length < 14) && decide (sa = []))
def isSampL (vn : List Str) (st : List StepT) (sa : List SampT) (w : LW) : Bool := sampB vn st.length (sampOf w.1 w.2) && (decide (sa.length < 6) && decide (sampOf w.1 w.2 ∉ sa))
theorem lineR_step {vn : List Str} {st : List StepT} {sa : List SampT} {lv0 : List (List Int)} {lc l : List Int} {w : LW} (h : isStepL vn st sa lc w = true) (e : nextL vn st lc w.1 (intOfS w.2) = some l) : lineR vn (st, sa, lv0 ++ [lc]) w = some (st ++ [(w.1, intOfS w.2)], sa, (lv0 ++ [lc]) ++ [l]) := by
  unfold isStepL at h
  rw [e] at h
  simp only [Option.isSome_some, Bool.true_and, Bool.and_eq_true, decide_eq_true_eq] at h
  have e2 : levelOf vn (st, sa, lv0 ++ [lc]) w = some l := by
    unfold levelOf
    simp only [List.getLastD_concat]
    exact e
  unfold lineR
  rw [e2]
  exact if_pos h
theorem lineR_samp {vn : List Str} {st : List StepT} {sa : List SampT} {lv0 : List (List Int)} {lc : List Int} {w : LW} (h : isStepL vn st sa lc w = false) : lineR vn (st, sa, lv0 ++ [lc]) w = if isSampL vn st sa w = true then some (st, sa ++ [sampOf w.1 w.2], lv0 ++ [lc]) else none := by
  have e2 : levelOf vn (st, sa, lv0 ++ [lc]) w = nextL vn st lc w.1 (intOfS w.2) := by
    unfold levelOf
    simp only [List.getLastD_concat]
  have e3 : sampR vn (st, sa, lv0 ++ [lc]) w = if isSampL vn st sa w = true then some (st, sa ++ [sampOf w.1 w.2], lv0 ++ [lc]) else none := by
    unfold sampR isSampL
    simp only [Bool.and_eq_true, decide_eq_true_eq]
  rw [← e3]
  unfold lineR
  rw [e2]
  cases e : nextL vn st lc w.1 (intOfS w.2) with
  | none => rfl
  | some l =>
    unfold isStepL at h
    rw [e] at h
    have h2 : ¬ (st.length < 14 ∧ sa = []) := fun ⟨x, y⟩ => by
      rw [decide_eq_true x, decide_eq_true y] at h
      cases h
    exact if_neg h2
theorem nextL_len {vn : List Str} {st : List StepT} {lv l : List Int} {ws : List Str} {o : Option Int} (e : nextL vn st lv ws o = some l) : l.length = lv.length := by
  unfold nextL at e
  split at e
  · split at e
    · cases e
    · split at e
      · cases e
        exact movedL_len
      · cases e
  · cases e
theorem nextL_ne {vn : List Str} {st : List StepT} {lv l : List Int} {ws : List Str} {o : Option Int} (e : nextL vn st lv ws o = some l) : ws ≠ [] := fun z => by
  subst z
  unfold nextL at e
  rw [show stepB vn o [] = false from rfl, if_neg (by decide)] at e
  cases e
theorem r65 {k : Nat} {A : Around} (r : Room k A) : A.units + 65 < cLine := by
  have z := r.un
  omega
theorem i_par3 {i j l : Nat} {ta : TA} {u : TS} {D : Ends} {σ : L2.St} {H : Hp} (h : ta σ H fun vs H1 => ∃ x y z, vs = [x, y, z] ∧ u D (((σ.set i (some x)).set j (some y)).set l (some z)) H1) : tSeq (tPar3 i j l ta) u D σ H := h
end Er
set_option Elab.async false
set_option linter.all false
set_option maxRecDepth 100000
set_option maxHeartbeats 4000000
namespace K10
open PySem PySem.Spec PyProof.Rows L2 Er
section
variable {P : Program} {w : World} {K : PySem.W.Frag} {mg : Str → Option Value} {base : Heap} {f : Addr} {fd : FuncData}
theorem ok_drawnT (T : Tx K mg) (F : FunD K "drawn" "drawn" (defArgs s_drawn) (defBody s_drawn) (defScope s_drawn) [] [] f fd) : FnOk P w K mg base CX0 1 f fd ["steps"] (spDrawnT K) := by
  refine F.ok sc_drawn (fun vs H Q E h => ?_) (fun cdv A outer s H vs Q E hr h => ?_)
  · obtain ⟨a, xs, st, rfl, _⟩ := h
    rfl
  · obtain ⟨a, xs, st, rfl, hL, hS, hz, hne, q⟩ := h
    refine ⟨_, PSs.nox (pss_one (ps_ret (pe_lc (own := [("number", 1), ("step", 2)]) (g := gTup K 2 (gCons (gName 1) (gCons (gName 2) gNil))) (tt := tTest (tOp rEq (tOp (rIxT K) (tVar 2) (tC (.int 0))) (tC (.str "draw")))) rfl sc_drawn.nd (pi_enumT (by rfl) (T.fr "enumerate" (mem_at 5 rfl)) (pa_cons (pv 0) pa_nil)) (blkOk_by (N := ["steps", "number", "step"]) (sc := defScope s_drawn) (by decide +kernel)) (fun _ _ _ _ _ => pg_tup rfl (pgs_cons (pg_name (i := 1) sc_drawn.nd rfl (Or.inl rfl)) (pgs_cons (pg_name (i := 2) sc_drawn.nd rfl (Or.inl rfl)) pgs_nil))) (fun _ _ _ _ _ => (pts_one (pt_cmpR op_eq (pe_ix ix_tup (pv 2) pe_int (fun _ _ => rfl)) pe_str (nomark _)))) (fun _ _ _ _ _ => (pv 1))))), ?_⟩
    refine i_ret (i_lc (i_cons (i_var rfl (i_nil ⟨a, xs, rfl, hL, fun Dl nD => ?_⟩))))
    refine lr_it walk_enumT (fun i H2 => Same H H2 ∧ H2 Dl = some (.lst (nV (drawnTo st i)))) ⟨same_new nD, upd_same⟩ (fun i H2 _ p => sameT p.1 hL) (fun i x H2 H3 hi p y => ?_) (fun H2 p => q Dl H2 p.1 (by rw [← hS.1]; exact p.2))
    obtain ⟨s2, e2⟩ := p
    have hi2 : i < st.length := by rw [← hS.1]; exact hi
    have hst := List.getElem?_eq_getElem hi2
    obtain ⟨r, hr1, hr2⟩ := (hS.same s2).2 i _ hst
    obtain ⟨Tp, u, v, rfl, nT, rfl, hu, hv⟩ := y
    cases Option.some.inj hu
    have hv2 : v = .ref r := Option.some.inj ((show xs[i]? = some v from hv).symm.trans hr1)
    subst hv2
    have hwn := hne _ (List.getElem_mem hi2)
    generalize st[i] = sz at hr2 hwn hst
    obtain ⟨ws, o⟩ := sz
    rcases ws with _ | ⟨k, wr⟩
    · exact absurd rfl hwn
    have s3 : Same H2 (upd H2 Tp (.tup [.int (i : Nat), .ref r])) := same_new nT
    have eD : isDraw st i = decide (k = ("draw" : Str)) := by
      unfold isDraw
      rw [hst]
    refine ⟨Tp, _, rfl, SqT.of upd_same, rfl, _, _, rfl, ?_⟩
    refine ⟨_, _, rfl, rfl, rfl, ?_⟩
    refine i_test (i_op ⟨_, rfl, i_c (r_ixT (sameT s3 hr2) (at_0 _ _) (i_c (r_eqS ⟨_, rfl, ite2 (fun e => ?_) (fun e => ?_)⟩)))⟩)
    · have e3 := s3 _ _ e2
      have en : nV (drawnTo st i) ++ [V.int (i : Nat)] = nV (drawnTo st (i + 1)) := by
        rw [drawnTo_succ, eD, if_pos e]
        unfold nV
        rw [List.map_append]
        rfl
      refine ⟨_, rfl, _, e3, ?_, same_mut (s2.trans s3) nD, ?_⟩
      · unfold nV
        rw [List.length_map]
        exact Nat.lt_of_le_of_lt (Nat.le_trans (drawnTo_len st i) (by omega : i ≤ 1000)) (by decide)
      · rw [upd_same, en]
    · refine ⟨s2.trans s3, ?_⟩
      rw [s3 _ _ e2, drawnTo_succ, eD, if_neg e, List.append_nil]
end
end K10
set_option Elab.async false
set_option linter.all false
set_option maxRecDepth 100000
set_option maxHeartbeats 4000000
namespace K10
open PySem PySem.Spec PyProof.Rows L2 Er
section
variable {P : Program} {w : World} {K : PySem.W.Frag} {mg : Str → Option Value} {base : Heap} {f : Addr} {fd : FuncData}
theorem sc_read_yard : FnScope ["text", "lines", "vessels", "steps", "samples", "levels", "number", "line", "step", "sample", "level"] ["text"] (defScope s_read_yard) := ⟨rfl, rfl, rfl, by decide +kernel, rfl, by decide +kernel, by decide +kernel⟩
theorem ok_read_yard (T : Tx K mg) (F : FunD K "read_yard" "read_yard" (defArgs s_read_yard) (defBody s_read_yard) (defScope s_read_yard) [] [] f fd) {fdI : FuncData} (GI : FnOk P w K mg base CX0 1 (fI K) fdI ["self", "value"] (spInit K)) (bI : Binds K fdI ["self", "value"] [])
    {fdGVi : FuncData} (GVi : FnOk P w K mg base CX0 3 (He.ga K "vessels_in") fdGVi ["line"] (spVessIn K)) (GViF : FnT K "vessels_in" s_vessels_in fdGVi) (GViB : Binds K fdGVi ["line"] [])
    {fdGSi : FuncData} (GSi : FnOk P w K mg base CX0 2 (He.ga K "step_in") fdGSi ["line"] (spStepIn K)) (GSiF : FnT K "step_in" s_step_in fdGSi) (GSiB : Binds K fdGSi ["line"] [])
    {fdGSm : FuncData} (GSm : FnOk P w K mg base CX0 2 (He.ga K "sample_in") fdGSm ["line"] (spSampIn K)) (GSmF : FnT K "sample_in" s_sample_in fdGSm) (GSmB : Binds K fdGSm ["line"] [])
    {fdGNl : FuncData} (GNl : FnOk P w K mg base CX0 4 (He.ga K "next_level") fdGNl ["vessels", "steps", "level", "step"] (spNext K)) (GNlF : FnT K "next_level" s_next_level fdGNl) (GNlB : Binds K fdGNl ["vessels", "steps", "level", "step"] [])
    {fdGSa : FuncData} (GSa : FnOk P w K mg base CX0 4 (He.ga K "is_sample") fdGSa ["value", "vessels", "many"] (spSamp K)) (GSaF : FnT K "is_sample" s_is_sample fdGSa) (GSaB : Binds K fdGSa ["value", "vessels", "many"] []) : FnOk P w K mg base (L2.CX P w) 5 f fd ["text"] (spRead K) := by
  refine F.ok sc_read_yard (fun vs H Q E h => ?_) (fun cdv A outer s H vs Q E hr h => ?_)
  · obtain ⟨x, k, ns, L, rfl, _⟩ := h
    rfl
  · obtain ⟨x, k, ns, L, rfl, ⟨l0, ls, hx, hxl, hls, hk, hl0, hns, hnw, hL, hLk⟩, q⟩ := h
    have hr_I := hr.mono (by decide : 2 ≤ 4)
    have hr_GVi := hr.mono (by decide : 3 ≤ 4)
    have hr_GSi := hr.mono (by decide : 2 ≤ 4)
    have hr_GSm := hr.mono (by decide : 2 ≤ 4)
    have hr_GNl := hr
    have hr_GSa := hr
    refine ⟨_, (pss_cons (ps_if (pt_not (pt_val (pe_callB call_isi (by rfl) (T.fr "isinstance" (mem_at 7 rfl)) (by decide +kernel) (pa_cons (pv 0) (pa_cons (pe_bltn (v := .ty "str") (by rfl) (T.fr "str" (mem_at 15 rfl)) (by decide +kernel) rfl) pa_nil)))))
        (pss_one ps_never)
        pss_nil)
      (pss_cons (ps_set (i := 1) sc_read_yard.nd rfl (Or.inl rfl) (pe_split (pv 0) pe_str))
      (pss_cons (ps_set (i := 2) sc_read_yard.nd rfl (Or.inl rfl) (pe_call GVi hr_GVi (by rfl) (T.gd "vessels_in" (mem_at 34 rfl)) GViF.kp GViB .nil pass0 (pa_cons (pe_ix ix_list (pv 1) pe_int (fun _ _ => rfl)) pa_nil)))
      (pss_cons (ps_if (pt_cmpR op_isN (pv 2) pe_non (nomark _))
        (pss_one (ps_raise rfl (takes_of rfl rfl rfl rfl) (pmk_oex (T.ers.er "BadYard" (mem_at 1 rfl)).oex (T.ers.er "BadYard" (mem_at 1 rfl)).init (T.ers.er "BadYard" (mem_at 1 rfl)).tI GI hr_I bI .nil pass0 (by rfl) (T.erg "BadYard" (mem_at 1 rfl)) (pa_cons pe_int pa_nil))))
        pss_nil)
      (pss_cons (ps_par3 (i := 3) (j := 4) (l := 5) (by rfl) sc_read_yard.nd rfl rfl rfl (by decide) (by decide) (by decide) rfl rfl rfl (pa_cons (pe_lst pa_nil) (pa_cons (pe_lst pa_nil) (pa_cons (pe_lst (pa_cons (pe_op op_repS (pe_tup (pa_cons pe_int pa_nil)) (pe_callB call_len_seq (by rfl) (T.fr "len" (mem_at 8 rfl)) PySem.boot_len (pa_cons (pv 2) pa_nil))) pa_nil)) pa_nil))) (by rfl))
      (pss_cons (ps_for (passes_of rfl) rfl (pi_enumKw (k := 2) (by rfl) (T.fr "enumerate" (mem_at 5 rfl)) (pe_slice sl_list (pv 1) (po_some pe_int) po_none) pe_int (by decide) (by decide)) (pg_tup rfl (pgs_cons (pg_name (i := 6) sc_read_yard.nd rfl (Or.inl rfl)) (pgs_cons (pg_name (i := 7) sc_read_yard.nd rfl (Or.inl rfl)) pgs_nil)))
        (pss_cons (ps_par (i := 8) (j := 9) (by rfl) sc_read_yard.nd rfl rfl (by decide) rfl rfl (pa_cons (pe_call GSi hr_GSi (by rfl) (T.gd "step_in" (mem_at 12 rfl)) GSiF.kp GSiB .nil pass0 (pa_cons (pv 7) pa_nil)) (pa_cons (pe_call GSm hr_GSm (by rfl) (T.gd "sample_in" (mem_at 13 rfl)) GSmF.kp GSmB .nil pass0 (pa_cons (pv 7) pa_nil)) pa_nil)) (by rfl))
        (pss_cons (ps_set (i := 10) sc_read_yard.nd rfl (Or.inl rfl) (pe_call GNl hr_GNl (by rfl) (T.gd "next_level" (mem_at 36 rfl)) GNlF.kp GNlB .nil pass0 (pa_cons (pv 2) (pa_cons (pv 3) (pa_cons (pe_ix ix_list (pv 5) (pe_un un_neg pe_int) (fun _ _ => rfl)) (pa_cons (pv 8) pa_nil))))))
        (pss_one (ps_if (PW.pt (pw_and (pt_cmpR op_notN (pv 10) pe_non (nomark _)) (pw_and (pt_cmpR op_lt (pe_callB call_len_seq (by rfl) (T.fr "len" (mem_at 8 rfl)) PySem.boot_len (pa_cons (pv 3) pa_nil)) (pe_glob (v := .int 14) (by rfl) (Exists.choose_spec T.int_MOST_STEPS) ⟨_, rfl⟩) (nomark _)) (pw_and1 (pt_cmpR (op_eqD hr.units) (pv 4) (pe_lst pa_nil) (nomark _))))))
          (pss_cons (ps_expr (pe_bm PySem.F.plainAttrs_list PySem.F.slot_list_append PySem.F.type_list_append mt_append (pv 3) (pa_cons (pv 8) pa_nil)))
          (pss_one (ps_expr (pe_bm PySem.F.plainAttrs_list PySem.F.slot_list_append PySem.F.type_list_append mt_append (pv 5) (pa_cons (pv 10) pa_nil)))))
          (pss_one (ps_if (PW.pt (pw_and (pt_val (pe_call GSa hr_GSa (by rfl) (T.gd "is_sample" (mem_at 11 rfl)) GSaF.kp GSaB .nil pass0 (pa_cons (pv 9) (pa_cons (pv 2) (pa_cons (pe_callB call_len_seq (by rfl) (T.fr "len" (mem_at 8 rfl)) PySem.boot_len (pa_cons (pv 3) pa_nil)) pa_nil))))) (pw_and (pt_cmpR op_lt (pe_callB call_len_seq (by rfl) (T.fr "len" (mem_at 8 rfl)) PySem.boot_len (pa_cons (pv 4) pa_nil)) (pe_glob (v := .int 6) (by rfl) (Exists.choose_spec T.int_MOST_SAMPLES) ⟨_, rfl⟩) (nomark _)) (pw_and1 (pt_cmpR (op_notInD (r65 hr)) (pv 9) (pv 4) (by rfl))))))
            (pss_one (ps_expr (pe_bm PySem.F.plainAttrs_list PySem.F.slot_list_append PySem.F.type_list_append mt_append (pv 4) (pa_cons (pv 9) pa_nil))))
            (pss_one (ps_raise rfl (takes_of rfl rfl rfl rfl) (pmk_oex (T.ers.er "BadYard" (mem_at 1 rfl)).oex (T.ers.er "BadYard" (mem_at 1 rfl)).init (T.ers.er "BadYard" (mem_at 1 rfl)).tI GI hr_I bI .nil pass0 (by rfl) (T.erg "BadYard" (mem_at 1 rfl)) (pa_cons (pv 6) pa_nil)))))))))))
      (pss_one (ps_ret (pe_tup (pa_cons (pv 2) (pa_cons (pe_callTy call_tuple_of (by rfl) (T.fr "tuple" (mem_at 17 rfl)) (by decide +kernel) (pa_cons (pv 3) pa_nil)) (pa_cons (pe_callTy call_tuple_of (by rfl) (T.fr "tuple" (mem_at 17 rfl)) (by decide +kernel) (pa_cons (pv 4) pa_nil)) (pa_cons (pe_callTy call_tuple_of (by rfl) (T.fr "tuple" (mem_at 17 rfl)) (by decide +kernel) (pa_cons (pv 5) pa_nil)) pa_nil))))))))))))), ?_⟩
    refine i_if0 (i_not (i_B (i_isi rfl (.str x) (isK_str _) ⟨_, rfl, ?_⟩)))
    refine iteF ?_
    refine i_set ⟨_, rfl, ⟨x, rfl⟩, x, ("\n" : Str), rfl, rfl, by decide +kernel, Nat.le_trans (Nat.add_le_add_right hxl 2) (by decide), fun p np => ?_⟩
    have s1 : Same H (upd H p (.lst (V.str l0 :: sV ls))) := same_new np
    have e1 : (Txt.split x ("\n" : Str)).map V.str = V.str l0 :: sV ls := by
      rw [hx]
      rfl
    rw [e1]
    refine i_set (i_call (i_cons ⟨_, rfl, i_c ⟨p, _, 0, _, rfl, rfl, SqL.of upd_same, at_0 _ _, ?_⟩⟩))
    refine i_nil ⟨l0, k, ns, rfl, hk, hl0, hns, hnw, fun v H2 s2 hv => ?_⟩
    have s3 := s1.trans s2
    have hp2 : H2 p = some (.lst (V.str l0 :: sV ls)) := s2 _ _ upd_same
    refine i_if0 (i_test (i_op (i_var rfl (i_c ⟨rfl, _, rfl, ?_⟩))))
    unfold AnsR at q
    cases eV : vessL k ns with
    | none =>
      rw [eV] at hv q
      cases hv
      refine iteT ?_
      exact i_raise (T.ers.er "BadYard" (mem_at 1 rfl)) (W := E) (fun Q h => h) (fun d H' s4 e => q d H' (s3.trans s4) e)
    | some vn =>
      rw [eV] at hv q
      replace q : (match readA vn L with
        | .inl n => BadA K H E n
        | .inr z => ∀ p a b c d H', Same H H' → SqT K H' p [.ref a, .ref b, .ref c, .ref d] → ReadOk K H' a b c d vn z → Q (.ref p) H') := q
      obtain ⟨pv, rfl, hpv, dpv⟩ := hv
      have en : vn = ns ∧ 1 ≤ vn.length ∧ vn.length ≤ 6 := by
        unfold vessL at eV
        split at eV
        · next z =>
          cases eV
          exact ⟨rfl, z.2.1, z.2.2.1⟩
        · cases eV
      obtain ⟨en, v1, v6⟩ := en
      refine iteF (i_par3 (i_cons (i_lst (i_nil ⟨by show 0 ≤ sizeLine; decide, fun p1 n1 => ?_⟩))))
      refine i_cons (i_lst (i_nil ⟨by show 0 ≤ sizeLine; decide, fun p2 n2 => ?_⟩))
      have t1 : Same H2 (upd H2 p1 (.lst [])) := same_new n1
      have t2 : Same H2 (upd (upd H2 p1 (.lst [])) p2 (.lst [])) := t1.trans (same_new n2)
      refine i_cons (i_lst (i_cons (i_op (i_tup (i_cons (i_c (i_nil ⟨by show 1 ≤ sizeLine; decide, fun pt nt => ?_⟩)))))))
      have t3 := t2.trans (same_new (o := .tup [.int 0]) nt)
      refine i_cb (i_cons (i_var rfl (i_nil ⟨pv, sV vn, rfl, .inr (sameT t3 hpv), pt, _, [.int 0], rfl, rfl, SqT.of upd_same, (fun z => nomatch z), ?_, ?_, by decide, fun pz H3 u3 hpz => ?_⟩)))
      · unfold sV
        rw [List.length_map]
        omega
      · unfold sV
        rw [List.length_map]
        omega
      have ez : (List.replicate (((sV vn).length : Nat) : Int).toNat [V.int 0]).flatten = iV (List.replicate vn.length 0) := by
        unfold sV iV
        rw [List.length_map, Int.toNat_natCast, List.map_replicate]
        induction vn.length with
        | zero => rfl
        | succ m ih => rw [List.replicate_succ, List.flatten_cons, ih, List.replicate_succ]; rfl
      rw [ez] at hpz
      refine i_nil ⟨by show 1 ≤ sizeLine; decide, fun p3 n3 => ?_⟩
      refine i_nil ⟨_, _, _, rfl, ?_⟩
      have t4 : Same H2 (upd H3 p3 (.lst [.ref pz])) := (t3.trans u3).trans (same_new n3)
      have g1 : (upd H3 p3 (.lst [.ref pz])) p1 = some (.lst []) := same_new n3 _ _ (u3 _ _ (same_new nt _ _ (same_new n2 _ _ upd_same)))
      have g2 : (upd H3 p3 (.lst [.ref pz])) p2 = some (.lst []) := same_new n3 _ _ (u3 _ _ (same_new nt _ _ upd_same))
      have g3 : (upd H3 p3 (.lst [.ref pz])) p3 = some (.lst [.ref pz]) := upd_same
      have m1 : H2 p1 = none := n1
      have m2 : H2 p2 = none := by
        cases e : H2 p2 with
        | none => rfl
        | some o =>
          rw [t1 _ _ e] at n2
          cases n2
      have m3 : H2 p3 = none := by
        cases e : H2 p3 with
        | none => rfl
        | some o =>
          rw [(t3.trans u3) _ _ e] at n3
          cases n3
      have d12 : p1 ≠ p2 := fun z => by
        rw [← z, upd_same] at n2
        cases n2
      have d13 : p1 ≠ p3 := fun z => by
        have y := u3 _ _ (same_new (o := .tup [.int 0]) nt _ _ (same_new (o := .lst []) n2 _ _ (upd_same (H := H2) (a := p1) (o := .lst []))))
        rw [z, n3] at y
        cases y
      have d23 : p2 ≠ p3 := fun z => by
        have y := u3 _ _ (same_new (o := .tup [.int 0]) nt _ _ (upd_same (H := upd H2 p1 (.lst [])) (a := p2) (o := .lst [])))
        rw [z, n3] at y
        cases y
      have hz3 : SqT K (upd H3 p3 (.lst [.ref pz])) pz (iV (List.replicate vn.length 0)) := sameT (same_new n3) hpz
      generalize upd H3 p3 (.lst [.ref pz]) = H4 at t4 g1 g2 g3 hz3
      refine i_for ⟨_, rfl, 1, rfl, p, _, rfl, SqL.of (t4 _ _ hp2), fun pl nl => ?_⟩
      rw [cut_tail]
      refine ⟨pl, sV ls, rfl, SqL.of upd_same, ?_⟩
      have lsl : (sV ls).length = ls.length := List.length_map ..
      have lL : ls.length = L.length := hL.length
      have d1l : p1 ≠ pl := fun z => by
        rw [← z, g1] at nl
        cases nl
      have d2l : p2 ≠ pl := fun z => by
        rw [← z, g2] at nl
        cases nl
      have d3l : p3 ≠ pl := fun z => by
        rw [← z, g3] at nl
        cases nl
      have w4 := same_new (o := .lst (sV ls)) nl
      refine fr_it (walk_enumK (K := K) (k := 2) (a := pl) (xs := sV ls)) (fun i σ' H' => ∃ z us vs ws r1 r2 r3 r4 r5, σ' = [some (.str x), some (.ref p), some (.ref pv), some (.ref p1), some (.ref p2), some (.ref p3), r1, r2, r3, r4, r5] ∧
        readA vn L = linesR vn (2 + i) (L.drop i) z ∧ Same H2 H' ∧ H' pl = some (.lst (sV ls)) ∧ H' p1 = some (.lst us) ∧ StepsAt K H' us z.1 ∧ H' p2 = some (.lst vs) ∧ SampsAt K H' vs z.2.1 ∧ H' p3 = some (.lst ws) ∧ LevsAt K H' ws z.2.2 ∧
        z.1.length ≤ 14 ∧ z.2.1.length ≤ 6 ∧ (∃ l0 l, z.2.2 = l0 ++ [l] ∧ l.length = vn.length) ∧ z.2.2.length = z.1.length + 1 ∧ (∀ y ∈ z.1, y.1 ≠ []) ∧ ∀ y ∈ z.2.1, SOk y) ?_ (fun i σ' H' _ hP => ?_) (fun i y σ' H' H5 hi hP hy => ?_) (fun σ' H' hP => ?_)
      · exact ⟨([], [], [List.replicate vn.length 0]), [], [], [.ref pz], none, none, none, none, none, rfl, rfl, t4.trans w4, upd_same, w4 _ _ g1, .nil, w4 _ _ g2, .nil, w4 _ _ g3, .cons ⟨pz, rfl, sameT w4 hz3⟩ .nil, Nat.zero_le _, Nat.zero_le _, ⟨[], _, rfl, List.length_replicate ..⟩, rfl, (fun y hy => nomatch hy), fun y hy => nomatch hy⟩
      · obtain ⟨z, us, vs, ws, r1, r2, r3, r4, r5, _, _, _, hpl, _⟩ := hP
        exact SqL.of hpl
      · obtain ⟨⟨st, sa, lv⟩, us, vs, ws, r1, r2, r3, r4, r5, rfl, hR, sH, hpl, h1, a1, h2, a2, h3, a3, b1, b2, ⟨lv0, lc, elv, llc⟩, b3, b4, b5⟩ := hP
        simp only at a1 a2 a3 b1 b2 elv b3 b4 b5
        subst elv
        obtain ⟨Tp, u, v, rfl, nT, rfl, hu, hv⟩ := hy
        cases Option.some.inj hu
        have hi2 : i < ls.length := by rw [← lsl]; exact hi
        obtain ⟨w, hw, hLW⟩ := paired_at hL (List.getElem?_eq_getElem hi2)
        have hv2 : v = .str ls[i] := by
          have z : (sV ls)[i]? = some v := hv
          unfold sV at z
          rw [List.getElem?_map, List.getElem?_eq_getElem hi2] at z
          exact (Option.some.inj z).symm
        subst hv2
        generalize ls[i] = lx at hLW
        rw [drop_at hw, linesR_cons] at hR
        have wok : WOk w.1 := hLk w (List.mem_of_getElem? hw)
        obtain ⟨init, last⟩ := w
        simp only at hLW wok
        have s5 : Same H' (upd H' Tp (.tup [.int (2 + (i : Nat)), .str lx])) := same_new nT
        refine ⟨Tp, _, rfl, SqT.of upd_same, rfl, _, _, rfl, ?_⟩
        refine ⟨_, _, rfl, rfl, ?_⟩
        refine i_par (i_cons (i_call (i_cons (i_var rfl (i_nil ⟨lx, init, last, rfl, hLW, fun pS H6 s6 e6 => ?_⟩)))))
        refine i_cons (i_call (i_cons (i_var rfl (i_nil ⟨lx, init, last, rfl, hLW, fun vS H7 s7 e7 => ?_⟩))))
        refine i_nil ⟨_, _, rfl, ?_⟩
        have q7 := (s5.trans s6).trans s7
        obtain ⟨us3, vL, rfl, rl, rfl, hrl⟩ := LevsAt.last a3
        refine i_set (i_call (i_cons (i_var rfl (i_cons (i_var rfl (i_cons ⟨_, rfl, 1, rfl, p3, _, -1, _, rfl, rfl, SqL.of (q7 _ _ h3), at_last _ _, ?_⟩))))))
        refine i_cons (i_var rfl (i_nil ⟨pv, p1, rl, pS, vn, us, st, lc, init, intOfS last, rfl, sameT (sH.trans q7) hpv, dpv.same (sH.trans q7), (fun z => by rw [z] at v1; exact absurd v1 (by decide)), by omega, SqL.of (q7 _ _ h1), a1.keep (.of q7), by omega, b4, sameT q7 hrl, llc, sameT s7 e6, fun vN H8 s8 hvN => ?_⟩))
        have q8 := q7.trans s8
        have f1 := q8 _ _ h1
        have f2 := q8 _ _ h2
        have f3 := q8 _ _ h3
        have fl := q8 _ _ hpl
        have e1' := a1.keep (.of q8)
        have e2' := a2.keep (.of q8)
        have e3' := a3.keep (.of q8)
        have eS : SqT K H8 pS (wv init (intOfS last)) := sameT (s7.trans s8) e6
        have eW : SampV K H8 vS (sampOf init last) := e7.same s8
        refine i_if (and_rest (isStepL vn st sa lc (init, last)) (fun H9 s9 => ?_) (fun Q' q' => ?_))
        · have q9 := q8.trans s9
          have f1 := s9 _ _ f1
          have f2 := s9 _ _ f2
          have f3 := s9 _ _ f3
          have fl := s9 _ _ fl
          have e1' := e1'.keep (.of s9)
          have e2' := e2'.keep (.of s9)
          have e3' := e3'.keep (.of s9)
          have eS := sameT s9 eS
          have eW := eW.same s9
          have sH9 := sH.trans q9
          cases hc : isStepL vn st sa lc (init, last) with
          | true =>
            have hc2 := hc
            unfold isStepL at hc2
            simp only [Bool.and_eq_true, decide_eq_true_eq] at hc2
            obtain ⟨c1, c2, c3⟩ := hc2
            obtain ⟨l, el⟩ := Option.isSome_iff_exists.mp c1
            rw [el] at hvN
            obtain ⟨pL, rfl, hpL⟩ := hvN
            have eL : LevV K H9 (.ref pL) l := ⟨pL, rfl, sameT s9 hpL⟩
            rw [lineR_step hc el] at hR
            have ll : l.length = vn.length := by
              have z := nextL_len el
              rw [z, llc]
            refine iteT (i_do ⟨.ref p1, rfl, .inl ⟨rfl, _, SqL.of f1⟩, i_cons (i_var rfl (i_nil ⟨p1, us, _, rfl, rfl, f1, ?_, ?_⟩))⟩)
            · have z := a1.1
              exact small1000 (by omega)
            · have k1 := KeepT.put (K := K) (o := .lst (us ++ [.ref pS])) f1
              have g3 : (upd H9 p1 (.lst (us ++ [.ref pS]))) p3 = some (.lst (us3 ++ [.ref rl])) := (upd_ne (Ne.symm d13)).trans f3
              refine i_drop ⟨.ref p3, rfl, .inl ⟨rfl, _, SqL.of g3⟩, i_cons (i_var rfl (i_nil ⟨p3, us3 ++ [.ref rl], _, rfl, rfl, g3, ?_, ?_⟩))⟩
              · have z := a3.len
                exact small1000 (by omega)
              · have k2 := k1.trans (KeepT.put (K := K) (o := .lst ((us3 ++ [.ref rl]) ++ [.ref pL])) g3)
                refine ⟨(st ++ [(init, intOfS last)], sa, (lv0 ++ [lc]) ++ [l]), us ++ [.ref pS], vs, (us3 ++ [.ref rl]) ++ [.ref pL], _, _, _, _, _, rfl, ?_, ?_, ?_, ?_, (e1'.keep k2).snoc (k2 _ _ eS), ?_, e2'.keep k2, upd_same, (e3'.keep k2).snoc ⟨pL, rfl, k2 _ _ (sameT s9 hpL)⟩, ?_, b2, ⟨_, l, rfl, ll⟩, ?_, ?_, b5⟩
                · rw [hR, show 2 + (i + 1) = 2 + i + 1 by omega]
                · exact same_mut (same_mut sH9 m1) m3
                · rw [upd_ne (Ne.symm d3l), upd_ne (Ne.symm d1l)]
                  exact fl
                · rw [upd_ne d13, upd_same]
                · rw [upd_ne d23, upd_ne (Ne.symm d12)]
                  exact f2
                · simp only [List.length_append, List.length_singleton]
                  omega
                · simp only [List.length_append, List.length_singleton]
                  simp only [List.length_append, List.length_singleton] at b3
                  omega
                · intro y hy
                  rcases List.mem_append.mp hy with hy | hy
                  · exact b4 y hy
                  · cases List.mem_singleton.mp hy
                    exact nextL_ne el
          | false =>
            rw [lineR_samp hc] at hR
            refine iteF (i_if (and_rest (isSampL vn st sa (init, last)) (fun H10 s10 => ?_) (fun Q' q' => ?_)))
            · have q10 := sH9.trans s10
              have f1 := s10 _ _ f1
              have f2 := s10 _ _ f2
              have f3 := s10 _ _ f3
              have fl := s10 _ _ fl
              have e1' := e1'.keep (.of s10)
              have e2' := e2'.keep (.of s10)
              have e3' := e3'.keep (.of s10)
              have eW := eW.same s10
              cases hc2 : isSampL vn st sa (init, last) with
              | true =>
                rw [hc2, if_pos rfl] at hR
                have hc3 := hc2
                unfold isSampL at hc3
                simp only [Bool.and_eq_true, decide_eq_true_eq] at hc3
                obtain ⟨c1, c2, c3⟩ := hc3
                have k1 := KeepT.put (K := K) (o := .lst (vs ++ [vS])) f2
                refine iteT (i_drop ⟨.ref p2, rfl, .inl ⟨rfl, _, SqL.of f2⟩, i_cons (i_var rfl (i_nil ⟨p2, vs, _, rfl, rfl, f2, ?_, ?_⟩))⟩)
                · have z := a2.len
                  exact small1000 (by omega)
                · refine ⟨(st, sa ++ [sampOf init last], lv0 ++ [lc]), us, vs ++ [vS], us3 ++ [.ref rl], _, _, _, _, _, rfl, ?_, same_mut q10 m2, ?_, ?_, e1'.keep k1, upd_same, (e2'.keep k1).snoc (eW.keep k1), ?_, e3'.keep k1, b1, ?_, ⟨lv0, lc, rfl, llc⟩, b3, b4, ?_⟩
                  · rw [hR, show 2 + (i + 1) = 2 + i + 1 by omega]
                  · rw [upd_ne (Ne.symm d2l)]
                    exact fl
                  · rw [upd_ne d12]
                    exact f1
                  · rw [upd_ne (Ne.symm d23)]
                    exact f3
                  · simp only [List.length_append, List.length_singleton]
                    omega
                  · intro y hy
                    rcases List.mem_append.mp hy with hy | hy
                    · exact b5 y hy
                    · cases List.mem_singleton.mp hy
                      exact sok_of wok
              | false =>
                rw [hc2, if_neg (by decide)] at hR
                rw [hR] at q
                refine iteF ?_
                refine i_raise (T.ers.er "BadYard" (mem_at 1 rfl)) (W := E) (v := .int (2 + (i : Nat))) (fun Q h => ⟨_, rfl, h⟩) (fun d H11 s11 e => q d H11 ((s3.trans q10).trans s11) (by rw [e]; rfl))
            · have ln : ((us.length : Nat) : Int) = (st.length : Int) := by rw [a1.1]
              have ln2 : ((vs.length : Nat) : Int) = (sa.length : Int) := by rw [a2.len]
              refine i_and (i_B (i_call (i_cons (i_var rfl (i_cons (i_var rfl (i_cons (i_cb (i_cons (i_var rfl (i_nil ⟨p1, us, rfl, .inl (SqL.of f1), ?_⟩)))))))))))
              rw [ln]
              refine i_nil ⟨vS, pv, sampOf init last, vn, st.length, rfl, eW, sameT sH9 hpv, fun H10 s10 => ⟨_, rfl, ite2 (fun y1 => ?_) (fun y1 => ?_)⟩⟩
              · refine i_and (i_test (i_op (i_cb (i_cons (i_var rfl (i_nil ⟨p2, vs, rfl, .inl (SqL.of (s10 _ _ f2)), i_c ⟨_, _, rfl, rfl, _, rfl, ?_⟩⟩))))))
                rw [ln2]
                refine ite2 (fun y2 => ?_) (fun y2 => ?_)
                · refine i_test (i_op (i_var rfl (i_var rfl ⟨sampD (sampOf init last), sa.map sampD, dp_samp (eW.same s10), .lst (SqL.of (s10 _ _ f2)) (dp_samps (e2'.keep (.of s10))), shaped_samp _ (sok_of wok), shaped_samps _ b5, _, rfl, ?_⟩)))
                  rw [any_samp]
                  have z := q' H10 s10
                  have y2' : sa.length < 6 := by
                    have y := of_decide_eq_true y2
                    omega
                  have g : isSampL vn st sa (init, last) = !decide (sampOf init last ∈ sa) := by
                    unfold isSampL
                    rw [y1, decide_eq_true y2', Bool.true_and, Bool.true_and]
                    exact decide_not
                  rw [g] at z
                  exact z
                · have z := q' H10 s10
                  have y2' : ¬ sa.length < 6 := fun y => y2 (decide_eq_true (by omega))
                  have g : isSampL vn st sa (init, last) = false := by
                    unfold isSampL
                    rw [decide_eq_false y2', Bool.false_and, Bool.and_false]
                  rw [g] at z
                  exact z
              · have z := q' H10 s10
                have g : isSampL vn st sa (init, last) = false := by
                  unfold isSampL
                  rw [Bool.eq_false_iff.mpr y1, Bool.false_and]
                rw [g] at z
                exact z
        · have ln : ((us.length : Nat) : Int) = (st.length : Int) := by rw [a1.1]
          refine i_and (i_test (i_op (i_var rfl (i_c ⟨rfl, _, rfl, ?_⟩))))
          cases eN : nextL vn st lc init (intOfS last) with
          | none =>
            rw [eN] at hvN
            cases hvN
            have z := q' H8 (Same.refl _)
            rw [show isStepL vn st sa lc (init, last) = false by unfold isStepL; rw [eN]; rfl] at z
            exact iteF z
          | some l =>
            rw [eN] at hvN
            obtain ⟨pL, rfl, hpL⟩ := hvN
            refine iteT (i_and (i_test (i_op (i_cb (i_cons (i_var rfl (i_nil ⟨p1, us, rfl, .inl (SqL.of f1), i_c ⟨_, _, rfl, rfl, _, rfl, ?_⟩⟩)))))))
            rw [ln]
            refine ite2 (fun y2 => ?_) (fun y2 => ?_)
            · have y2' : st.length < 14 := by
                have y := of_decide_eq_true y2
                omega
              refine i_test (i_op (i_var rfl (i_lst (i_nil ⟨by show 0 ≤ sizeLine; decide, fun pe ne => ?_⟩))))
              have se : Same H8 (upd H8 pe (.lst [])) := same_new ne
              refine ⟨.list (sa.map sampD), .list [], .lst (SqL.of (se _ _ f2)) (dp_samps (e2'.keep (.of se))), .lst (SqL.of upd_same) .nil, shaped_samps _ b5, shaped_empty, _, rfl, ?_⟩
              rw [eqv_empty]
              have z := q' _ se
              have g : isStepL vn st sa lc (init, last) = decide (sa = []) := by
                unfold isStepL
                rw [eN, decide_eq_true y2', Option.isSome_some, Bool.true_and, Bool.true_and]
              rw [g] at z
              exact z
            · have z := q' H8 (Same.refl _)
              have y2' : ¬ st.length < 14 := fun y => y2 (decide_eq_true (by omega))
              have g : isStepL vn st sa lc (init, last) = false := by
                unfold isStepL
                rw [decide_eq_false y2', Bool.false_and, Bool.and_false]
              rw [g] at z
              exact z
      · obtain ⟨⟨st, sa, lv⟩, us, vs, ws, r1, r2, r3, r4, r5, rfl, hR, sH, hpl, h1, a1, h2, a2, h3, a3, b1, b2, _, b3, b4, b5⟩ := hP
        rw [lsl, lL, List.drop_length] at hR
        replace hR : readA vn L = .inr (st, sa, lv) := hR
        rw [hR] at q
        replace q : ∀ p a b c d H', Same H H' → SqT K H' p [.ref a, .ref b, .ref c, .ref d] → ReadOk K H' a b c d vn (st, sa, lv) → Q (.ref p) H' := q
        refine i_ret (i_tup (i_cons (i_var rfl (i_cons (i_cb (i_cons (i_var rfl (i_nil ⟨p1, us, rfl, .inl ⟨SqL.of h1, fun pa na => ?_⟩⟩))))))))
        have sa1 : Same H' (upd H' pa (.tup us)) := same_new na
        refine i_cons (i_cb (i_cons (i_var rfl (i_nil ⟨p2, vs, rfl, .inl ⟨SqL.of (sa1 _ _ h2), fun pb nb => ?_⟩⟩))))
        have sb1 := sa1.trans (same_new (o := .tup vs) nb)
        refine i_cons (i_cb (i_cons (i_var rfl (i_nil ⟨p3, ws, rfl, .inl ⟨SqL.of (sb1 _ _ h3), fun pc nc => ?_⟩⟩))))
        have sc1 := sb1.trans (same_new (o := .tup ws) nc)
        refine i_nil ⟨by show 4 ≤ sizeLine; decide, fun pp npp => ?_⟩
        have sd1 := sc1.trans (same_new (o := .tup [.ref pv, .ref pa, .ref pb, .ref pc]) npp)
        refine q pp pv pa pb pc _ ((s3.trans sH).trans sd1) (SqT.of upd_same) ⟨sameT (sH.trans sd1) hpv, dpv.same (sH.trans sd1), us, vs, ws, SqT.of (same_new npp _ _ (same_new nc _ _ (same_new nb _ _ upd_same))), a1.keep (.of sd1), SqT.of (same_new npp _ _ (same_new nc _ _ upd_same)), a2.keep (.of sd1), SqT.of (same_new npp _ _ upd_same), a3.keep (.of sd1), b1, b2, b3, b4, b5⟩
end
end K10
set_option Elab.async false
set_option linter.all false
set_option maxRecDepth 100000
set_option maxHeartbeats 4000000
/-! A Yard: what its attributes hold. -/
namespace Er
open PySem PySem.Spec PyProof.Rows L2
/-- a tuple of these -/
def TupV (K : PySem.W.Frag) (H : Hp) (v : V) (l : List V) : Prop := ∃ r, v = .ref r ∧ SqT K H r l
def TupsAt (K : PySem.W.Frag) (H : Hp) (vs : List V) (ls : List (List V)) : Prop := Paired (TupV K H) vs ls
section
variable {K : PySem.W.Frag} {H H' : Hp}
theorem TupsAt.keep (k : KeepT K H H') : ∀ {vs : List V} {ls : List (List V)}, TupsAt K H vs ls → TupsAt K H' vs ls
  | _, _, .nil => .nil
  | _, _, .cons ⟨r, e, h⟩ t => .cons ⟨r, e, k _ _ h⟩ (TupsAt.keep k t)
theorem TupsAt.snoc {v : V} {l : List V} (q : TupV K H v l) : ∀ {vs : List V} {ls : List (List V)}, TupsAt K H vs ls → TupsAt K H (vs ++ [v]) (ls ++ [l])
  | _, _, .nil => .cons q .nil
  | _, _, .cons h t => .cons h (TupsAt.snoc q t)
theorem TupsAt.app {us : List V} {ms : List (List V)} (q : TupsAt K H us ms) : ∀ {vs : List V} {ls : List (List V)}, TupsAt K H vs ls → TupsAt K H (vs ++ us) (ls ++ ms)
  | _, _, .nil => q
  | _, _, .cons h t => .cons h (TupsAt.app q t)
theorem TupsAt.len : ∀ {vs : List V} {ls : List (List V)}, TupsAt K H vs ls → vs.length = ls.length
  | _, _, .nil => rfl
  | _, _, .cons _ t => congrArg (· + 1) (TupsAt.len t)
end
def inE (n : Nat) (x : Str) : List V := [.str "in", .str x, .int (n : Int)]
def byE (n : Nat) : List V := [.str "by", .int (n : Int)]
def endsOf (vn : List Str) (st : List StepT) : List (List V) := vn.map (inE st.length) ++ (drawnTo st st.length).map byE
/-- all that was there, but y, stays -/
def SameX (y : Addr) (H H' : Hp) : Prop := ∀ b o, b ≠ y → H b = some o → H' b = some o
theorem SameX.of {y : Addr} {H H' : Hp} (s : Same H H') : SameX y H H' := fun b o _ e => s b o e
theorem SameX.put {y : Addr} {H H' : Hp} {o : HO} (s : SameX y H H') : SameX y H (upd H' y o) := fun b u ne e => by
  rw [upd_ne ne]
  exact s b u ne e
theorem SameX.trans {y : Addr} {H H1 H2 : Hp} (s : SameX y H H1) (t : Same H1 H2) : SameX y H H2 := fun b o ne e => t b o (s b o ne e)
def YardAt (K : PySem.W.Frag) (H : Hp) (y : Addr) (x : Str) (vn : List Str) (z : RS) : Prop := ∃ dx fs a b c d e es, H y = some (.ins (He.ga K "Yard") dx fs) ∧ fs.length ≤ 6 ∧ fs.lookup ("text" : Str) = some (.str x) ∧ fs.lookup ("vessels" : Str) = some (.ref a) ∧ fs.lookup ("steps" : Str) = some (.ref b) ∧
  fs.lookup ("samples" : Str) = some (.ref c) ∧ fs.lookup ("levels" : Str) = some (.ref d) ∧ fs.lookup ("ends" : Str) = some (.ref e) ∧ ReadOk K H a b c d vn z ∧ SqT K H e es ∧ TupsAt K H es (endsOf vn z.1)
def spYardI (K : PySem.W.Frag) : Sp := fun vs H Q E => ∃ y dx x k ns L, vs = [.ref y, .str x] ∧ H y = some (.ins (He.ga K "Yard") dx []) ∧ TextW x k ns L ∧
  AnsR K H E k ns L fun vn z => ∀ H', SameX y H H' → YardAt K H' y x vn z → Q .non H'
theorem upd2 {H : Hp} {a : Addr} {o o' : HO} : upd (upd H a o) a o' = upd H a o' := by
  funext b
  by_cases e : b = a
  · rw [e, upd_same, upd_same]
  · rw [upd_ne e, upd_ne e, upd_ne e]
def rLenS (K : PySem.W.Frag) : List V → Hp → VK → Prop := fun xs H Q => ∃ p ys, xs = [V.ref p] ∧ (SqL K H p ys ∨ SqT K H p ys) ∧ Q (V.int (ys.length : Nat)) H
theorem i_fld {K : PySem.W.Frag} {ta tv : TE} {f : Str} {u : TS} {D : Ends} {σ : L2.St} {H : Hp} (h : tv σ H fun y H1 => ta σ H1 fun x H2 => ∃ a C dx fs, x = .ref a ∧ H2 a = some (.ins C dx fs) ∧ Cls K C ∧ NoAttr K C f ∧ fs.length < 1000 ∧ u D σ (upd H2 a (.ins C dx (putF f y fs)))) : tSeq (sFld K ta tv f) u D σ H := h
theorem i_fldL {K : PySem.W.Frag} {ta tv : TE} {f : Str} {D : Ends} {σ : L2.St} {H : Hp} (h : tv σ H fun y H1 => ta σ H1 fun x H2 => ∃ a C dx fs, x = .ref a ∧ H2 a = some (.ins C dx fs) ∧ Cls K C ∧ NoAttr K C f ∧ fs.length < 1000 ∧ D.nx σ (upd H2 a (.ins C dx (putF f y fs)))) : sFld K ta tv f D σ H := h
theorem i_asgs {te : TE} {g : TG} {u : TS} {D : Ends} {σ : L2.St} {H : Hp} (h : te σ H fun x H1 => g x σ H1 (u D)) : tSeq (tAsg te g) u D σ H := h
theorem i_yes {σ : L2.St} {H : Hp} {Q : Bool → Hp → Prop} (h : Q true H) : tYes σ H Q := h
theorem lenF (f : Str) (v : V) : ∀ fs : List (Str × V), (putF f v fs).length ≤ fs.length + 1
  | [] => Nat.le_refl _
  | (g, x) :: r => by
    unfold putF
    by_cases e : g = f
    · rw [if_pos e]
      exact Nat.le_succ _
    · rw [if_neg e]
      exact Nat.succ_le_succ (lenF f v r)
/-- a thing that is no tuple is written: the tuples stay -/
theorem KeepT.ins {K : PySem.W.Frag} {H : Hp} {p C dx : Addr} {fs : List (Str × V)} {o : HO} (h : H p = some (.ins C dx fs)) : KeepT K H (upd H p o) := fun r xs q => by
  rcases q with (q | ⟨u, q⟩) | q
  · exact .inl (.inl ((upd_ne (fun z => by rw [z, h] at q; cases q)).trans q))
  · exact .inl (.inr ⟨u, (upd_ne (fun z => by rw [z, h] at q; cases q)).trans q⟩)
  · exact .inr q
theorem TupD.ins {K : PySem.W.Frag} {H : Hp} {p q C dx : Addr} {fs : List (Str × V)} {o : HO} (h : H p = some (.ins C dx fs)) (t : TupD K H q) : TupD K (upd H p o) q := by
  rcases t with t | ⟨o, u, e, c⟩
  · exact .inl t
  · exact .inr ⟨o, u, (upd_ne (fun z => by rw [z, h] at e; cases e)).trans e, c⟩
theorem ReadOk.keep {K : PySem.W.Frag} {H H' : Hp} {a b c d : Addr} {vn : List Str} {z : RS} (k : KeepT K H H') (t : TupD K H a → TupD K H' a) (h : ReadOk K H a b c d vn z) : ReadOk K H' a b c d vn z := by
  obtain ⟨h1, h2, us, vs, ws, h3, h4, h5, h6, h7, h8, h9⟩ := h
  exact ⟨k _ _ h1, t h2, us, vs, ws, k _ _ h3, h4.keep k, k _ _ h5, h6.keep k, k _ _ h7, h8.keep k, h9⟩
end Er
set_option Elab.async false
set_option linter.all false
set_option maxRecDepth 100000
set_option maxHeartbeats 4000000
namespace K10
open PySem PySem.Spec PyProof.Rows L2 Er
section
variable {P : Program} {w : World} {K : PySem.W.Frag} {mg : Str → Option Value} {base : Heap} {f : Addr} {fd : FuncData}
theorem sc_Yard_init : FnScope ["self", "text", "vessels", "steps", "samples", "levels", "standing", "vessel", "number"] ["self", "text"] (defScope s_Yard___init__) := ⟨rfl, rfl, rfl, by decide +kernel, rfl, by decide +kernel, by decide +kernel⟩
theorem ok_Yard_init (T : Tx K mg) (CL : Cls K (He.ga K "Yard")) (NA : ∀ a ∈ (["text", "vessels", "steps", "samples", "levels", "ends"] : List Str), NoAttr K (He.ga K "Yard") a) (F : FunD K "__init__" "Yard.__init__" (defArgs s_Yard___init__) (defBody s_Yard___init__) (defScope s_Yard___init__) [] [] f fd)
    {fdGRy : FuncData} (GRy : FnOk P w K mg base (L2.CX P w) 5 (He.ga K "read_yard") fdGRy ["text"] (spRead K)) (GRyF : FnT K "read_yard" s_read_yard fdGRy) (GRyB : Binds K fdGRy ["text"] [])
    {fdGDt : FuncData} (GDt : FnOk P w K mg base CX0 1 (He.ga K "drawn") fdGDt ["steps"] (spDrawnT K)) (GDtF : FnT K "drawn" s_drawn fdGDt) (GDtB : Binds K fdGDt ["steps"] []) : FnOk P w K mg base (L2.CX P w) 6 f fd ["self", "text"] (spYardI K) := by
  refine F.ok sc_Yard_init (fun vs H Q E h => ?_) (fun cdv A outer s H vs Q E hr h => ?_)
  · obtain ⟨y, dx, x, k, ns, L, rfl, _⟩ := h
    rfl
  · obtain ⟨y, dx, x, k, ns, L, rfl, hy, hT, q⟩ := h
    have hr_GRy := hr
    have hr_GDt := hr.mono (by decide : 1 ≤ 5)
    refine ⟨_, (pss_cons (ps_asg (pe_call GRy hr_GRy (by rfl) (T.gd "read_yard" (mem_at 37 rfl)) GRyF.kp GRyB .nil (passes_call (takes_of rfl rfl rfl rfl) (fun _ _ _ _ h => h)) (pa_cons (pv 1) pa_nil)) (pg_tup rfl (pgs_cons (pg_name (i := 2) sc_Yard_init.nd rfl (Or.inl rfl)) (pgs_cons (pg_name (i := 3) sc_Yard_init.nd rfl (Or.inr rfl)) (pgs_cons (pg_name (i := 4) sc_Yard_init.nd rfl (Or.inl rfl)) (pgs_cons (pg_name (i := 5) sc_Yard_init.nd rfl (Or.inl rfl)) pgs_nil))))))
      (pss_cons (ps_fld (pv 0) (pv 1) rfl)
      (pss_cons (ps_fld (pv 0) (pv 2) rfl)
      (pss_cons (ps_fld (pv 0) (pv 3) rfl)
      (pss_cons (ps_fld (pv 0) (pv 4) rfl)
      (pss_cons (ps_fld (pv 0) (pv 5) rfl)
      (pss_cons (ps_setLc (i := 6) (own := [("vessel", 7)]) (g := gName 7) (tt := tYes) rfl sc_Yard_init.nd rfl rfl (sw_true rfl rfl rfl (by decide +kernel)) (pi_tup (pv 2)) (blkOk_by (N := ["self", "text", "vessels", "steps", "samples", "levels", "standing", "vessel", "number"]) (sc := defScope s_Yard___init__) (by decide +kernel)) (fun _ _ _ _ _ => pg_name (i := 7) sc_Yard_init.nd rfl (Or.inl rfl)) (fun _ _ _ _ _ => pts_nil) (fun _ _ _ _ _ => (pe_tup (pa_cons pe_str (pa_cons (pv 7) (pa_cons (pe_callB (show CallR _ (.builtin "len") (rLenS K) from call_len_seq) (by rfl) (T.fr "len" (mem_at 8 rfl)) PySem.boot_len (pa_cons (pv 3) pa_nil)) pa_nil))))))
      (pss_one (ps_fld (pv 0) (pe_callTy call_tuple_of (by rfl) (T.fr "tuple" (mem_at 17 rfl)) (by decide +kernel) (pa_cons (pe_op op_cat (pv 6) (pe_lc (own := [("number", 8)]) (g := gName 8) (tt := tYes) rfl sc_Yard_init.nd (pi_list (pe_call GDt hr_GDt (by rfl) (T.gd "drawn" (mem_at 35 rfl)) GDtF.kp GDtB .nil pass0 (pa_cons (pv 3) pa_nil))) (blkOk_by (N := ["self", "text", "vessels", "steps", "samples", "levels", "standing", "vessel", "number"]) (sc := defScope s_Yard___init__) (by decide +kernel)) (fun _ _ _ _ _ => pg_name (i := 8) sc_Yard_init.nd rfl (Or.inl rfl)) (fun _ _ _ _ _ => pts_nil) (fun _ _ _ _ _ => (pe_tup (pa_cons pe_str (pa_cons (pv 8) pa_nil)))))) pa_nil)) rfl))))))))), ?_⟩
    refine i_asgs (i_call (i_cons (i_var rfl (i_nil ⟨x, k, ns, L, rfl, hT, ?_⟩))))
    refine q.imp fun vn z ev q2 p a b c d H1 s1 hp hR => ?_
    have hy1 := s1 _ _ hy
    refine ⟨p, _, rfl, hp, rfl, _, _, rfl, ?_⟩
    refine ⟨_, _, rfl, _, _, rfl, _, _, rfl, rfl, ?_⟩
    refine i_fld ⟨_, rfl, _, rfl, y, _, dx, _, rfl, hy1, CL, NA _ (mem_at 0 rfl), Nat.le_of_ble_eq_true rfl, ?_⟩
    refine i_fld ⟨_, rfl, _, rfl, y, _, dx, _, rfl, upd_same, CL, NA _ (mem_at 1 rfl), Nat.le_of_ble_eq_true rfl, ?_⟩
    refine i_fld ⟨_, rfl, _, rfl, y, _, dx, _, rfl, upd_same, CL, NA _ (mem_at 2 rfl), Nat.le_of_ble_eq_true rfl, ?_⟩
    refine i_fld ⟨_, rfl, _, rfl, y, _, dx, _, rfl, upd_same, CL, NA _ (mem_at 3 rfl), Nat.le_of_ble_eq_true rfl, ?_⟩
    refine i_fld ⟨_, rfl, _, rfl, y, _, dx, _, rfl, upd_same, CL, NA _ (mem_at 4 rfl), Nat.le_of_ble_eq_true rfl, ?_⟩
    rw [upd2, upd2, upd2, upd2]
    obtain ⟨fs, ef⟩ : ∃ fs, putF "levels" (.ref d) (putF "samples" (.ref c) (putF "steps" (.ref b) (putF "vessels" (.ref a) (putF "text" (.str x) [])))) = fs := ⟨_, rfl⟩
    have look : ∀ g : Str, fs.lookup g = if g = ("levels" : Str) then some (.ref d) else if g = ("samples" : Str) then some (.ref c) else if g = ("steps" : Str) then some (.ref b) else if g = ("vessels" : Str) then some (.ref a) else if g = ("text" : Str) then some (.str x) else none := fun g => by
      rw [← ef, lookup_putF, lookup_putF, lookup_putF, lookup_putF, lookup_putF]
      rfl
    have fl5 : fs.length = 5 := by
      rw [← ef]
      rfl
    have u1 : SameX y H (upd H1 y (.ins (He.ga K "Yard") dx fs)) := (SameX.of s1).put
    have k1 : KeepT K H1 (upd H1 y (.ins (He.ga K "Yard") dx fs)) := KeepT.ins hy1
    have hR2 := hR.keep k1 (TupD.ins hy1)
    rw [ef]
    clear ef
    have hy2 : (upd H1 y (.ins (He.ga K "Yard") dx fs)) y = some (.ins (He.ga K "Yard") dx fs) := upd_same
    generalize upd H1 y (.ins (He.ga K "Yard") dx fs) = H2 at u1 hR2 hy2
    have hR3 := hR2
    obtain ⟨ha, da, us, vs, ws, hb, sb, hc, sc, hd, sd, b1, b2, b3, b4, b5⟩ := hR2
    have hnv : vn.length ≤ 1000 := Nat.le_trans (vess6 ev).2.2 (by decide)
    have lvn : (sV vn).length = vn.length := List.length_map ..
    have lus : ((us.length : Nat) : Int) = (z.1.length : Int) := by rw [sb.1]
    refine i_set ?_
    refine i_lc ⟨_, rfl, a, rfl, ⟨_, ha⟩, fun Dl nD => lr_it (walk_tup (K := K) (a := a) (xs := sV vn)) (fun i H3 => Same H2 H3 ∧ ∃ acc, H3 Dl = some (.lst acc) ∧ TupsAt K H3 acc ((vn.take i).map (inE z.1.length)))
      ?_ (fun i H3 _ hP => sameT hP.1 ha) (fun i v H3 H4 hi hP hy => ?_) (fun H3 hP => ?_)⟩
    · exact ⟨same_new nD, [], upd_same, .nil⟩
    · obtain ⟨s3, acc, eD, hA⟩ := hP
      obtain ⟨rfl, hv⟩ := hy
      rw [lvn] at hi
      have hv2 : v = .str vn[i] := by
        unfold sV at hv
        rw [List.getElem?_map, List.getElem?_eq_getElem hi] at hv
        exact (Option.some.inj hv).symm
      subst hv2
      refine ⟨rfl, i_yes (iteT (i_tup (i_cons (i_c (i_cons (i_var rfl (i_cons (i_cb (i_cons (i_var rfl (i_nil ⟨b, us, rfl, .inr (sameT s3 hb), ?_⟩)))))))))))⟩
      rw [lus]
      refine i_nil ⟨by show 3 ≤ sizeLine; decide, fun pt nt => ?_⟩
      have s4 := same_new (o := .tup [.str "in", .str vn[i], .int (z.1.length : Int)]) nt
      have eD4 := s4 _ _ eD
      have len : acc.length = i := by
        rw [hA.len, List.length_map, List.length_take]
        omega
      refine ⟨acc, eD4, ?_, same_mut (s3.trans s4) nD, acc ++ [.ref pt], upd_same, ?_⟩
      · have v6 := hi
        exact Nat.lt_of_lt_of_le (by rw [len]; exact hi) (Nat.le_trans hnv (by decide))
      · have k4 : KeepT K H4 (upd (upd H4 pt (.tup [.str "in", .str vn[i], .int (z.1.length : Int)])) Dl (.lst (acc ++ [.ref pt]))) := (KeepT.of s4).trans (KeepT.put eD4)
        have e : (vn.take (i + 1)).map (inE z.1.length) = (vn.take i).map (inE z.1.length) ++ [inE z.1.length vn[i]] := by
          rw [List.take_add_one, List.getElem?_eq_getElem hi, List.map_append]
          rfl
        rw [e]
        exact (hA.keep k4).snoc ⟨pt, rfl, (KeepT.put (K := K) eD4) _ _ (SqT.of upd_same)⟩
    · obtain ⟨s3, acc, eD, hA⟩ := hP
      rw [lvn, List.take_length] at hA
      refine i_fldL (i_cb (i_cons (i_op (i_var rfl (i_lc (i_call (i_cons (i_var rfl (i_nil ⟨b, us, z.1, rfl, sameT s3 hb, sb.same s3, by omega, b4, fun pd H5 s5 e5 => ⟨pd, rfl, ⟨_, SqL.of e5⟩, fun Dm nDm => ?_⟩⟩)))))))))
      have q5 := s3.trans s5
      refine lr_it (walk_list (K := K) (a := pd) (xs := nV (drawnTo z.1 z.1.length))) (fun i H6 => Same H5 H6 ∧ ∃ acc2, H6 Dm = some (.lst acc2) ∧ TupsAt K H6 acc2 (((drawnTo z.1 z.1.length).take i).map byE)) ?_ (fun i H6 _ hP => hP.1.seq (SqL.of e5)) (fun i v H6 H7 hi hP hy => ?_) (fun H6 hP => ?_)
      · exact ⟨same_new nDm, [], upd_same, .nil⟩
      · obtain ⟨s6, acc2, eD2, hA2⟩ := hP
        obtain ⟨rfl, hv⟩ := hy
        have lnV : (nV (drawnTo z.1 z.1.length)).length = (drawnTo z.1 z.1.length).length := List.length_map ..
        rw [lnV] at hi
        have hv2 : v = .int ((drawnTo z.1 z.1.length)[i] : Nat) := by
          unfold nV at hv
          rw [List.getElem?_map, List.getElem?_eq_getElem hi] at hv
          exact (Option.some.inj hv).symm
        subst hv2
        refine ⟨rfl, i_yes (iteT (i_tup (i_cons (i_c (i_cons (i_var rfl (i_nil ⟨by show 2 ≤ sizeLine; decide, fun pt nt => ?_⟩)))))))⟩
        have s7 := same_new (o := .tup [.str "by", .int ((drawnTo z.1 z.1.length)[i] : Nat)]) nt
        have eD4 := s7 _ _ eD2
        have len : acc2.length = i := by
          rw [hA2.len, List.length_map, List.length_take]
          omega
        refine ⟨acc2, eD4, ?_, same_mut (s6.trans s7) nDm, acc2 ++ [.ref pt], upd_same, ?_⟩
        · have v7 := drawnTo_len z.1 z.1.length
          rw [len]
          exact small1000 (by omega)
        · have k4 : KeepT K H7 (upd (upd H7 pt (.tup [.str "by", .int ((drawnTo z.1 z.1.length)[i] : Nat)])) Dm (.lst (acc2 ++ [.ref pt]))) := (KeepT.of s7).trans (KeepT.put eD4)
          have e : ((drawnTo z.1 z.1.length).take (i + 1)).map byE = ((drawnTo z.1 z.1.length).take i).map byE ++ [byE (drawnTo z.1 z.1.length)[i]] := by
            rw [List.take_add_one, List.getElem?_eq_getElem hi, List.map_append]
            rfl
          rw [e]
          exact (hA2.keep k4).snoc ⟨pt, rfl, (KeepT.put (K := K) eD4) _ _ (SqT.of upd_same)⟩
      · obtain ⟨s6, acc2, eD2, hA2⟩ := hP
        have lnV : (nV (drawnTo z.1 z.1.length)).length = (drawnTo z.1 z.1.length).length := List.length_map ..
        rw [lnV, List.take_length] at hA2
        have q6 := q5.trans s6
        have eD6 : H6 Dl = some (.lst acc) := s6 _ _ (s5 _ _ eD)
        have hA6 := hA.keep (KeepT.of (s5.trans s6))
        have v7 := drawnTo_len z.1 z.1.length
        have l1 : acc.length = vn.length := by rw [hA.len, List.length_map]
        have l2 : acc2.length = (drawnTo z.1 z.1.length).length := by rw [hA2.len, List.length_map]
        refine ⟨Dl, Dm, acc, acc2, rfl, rfl, eD6, eD2, ?_, fun pc nc => ?_⟩
        · exact Nat.le_trans (by omega : acc.length + acc2.length ≤ 2000) (by decide)
        have s8 := same_new (o := .lst (acc ++ acc2)) nc
        refine i_nil ⟨pc, acc ++ acc2, rfl, .inl ⟨SqL.of upd_same, fun pe ne => ?_⟩⟩
        have s9 := s8.trans (same_new (o := .tup (acc ++ acc2)) ne)
        have q9 := q6.trans s9
        refine ⟨_, rfl, y, _, dx, fs, rfl, q9 _ _ hy2, CL, NA _ (mem_at 5 rfl), by rw [fl5]; decide, ?_⟩
        have kF := KeepT.ins (K := K) (o := .ins (He.ga K "Yard") dx (putF "ends" (.ref pe) fs)) (q9 _ _ hy2)
        refine q2 _ (u1.trans q9).put ⟨dx, putF "ends" (.ref pe) fs, a, b, c, d, pe, acc ++ acc2, upd_same, ?_, ?_, ?_, ?_, ?_, ?_, ?_, ?_, ?_, ?_⟩
        · exact Nat.le_trans (lenF _ _ fs) (by omega)
        · rw [lookup_putF, look]
          repeat (first | rw [if_pos rfl] | rw [if_neg (by decide +kernel)])
        · rw [lookup_putF, look]
          repeat (first | rw [if_pos rfl] | rw [if_neg (by decide +kernel)])
        · rw [lookup_putF, look]
          repeat (first | rw [if_pos rfl] | rw [if_neg (by decide +kernel)])
        · rw [lookup_putF, look]
          repeat (first | rw [if_pos rfl] | rw [if_neg (by decide +kernel)])
        · rw [lookup_putF, look]
          repeat (first | rw [if_pos rfl] | rw [if_neg (by decide +kernel)])
        · rw [lookup_putF, if_pos rfl]
        · exact hR3.keep ((KeepT.of q9).trans kF) fun t => TupD.ins (q9 _ _ hy2) (t.same q9)
        · exact kF _ _ (SqT.of upd_same)
        · exact TupsAt.app (hA2.keep ((KeepT.of s9).trans kF)) (hA6.keep ((KeepT.of s9).trans kF))
end
end K10
set_option Elab.async false
set_option linter.all false
set_option maxRecDepth 100000
set_option maxHeartbeats 4000000
namespace Er
open PySem PySem.Spec PyProof.Rows L2
def spPot (K : PySem.W.Frag) : Sp := fun vs H Q _ => ∃ (a : Addr) (ns : List Int) (i : Int), vs = [.ref a, .int i] ∧ SqL K H a (ns.map V.int) ∧ ns.length ≤ 63 ∧ 0 ≤ i ∧ i ≤ 10 ∧
  ∀ (H' : Hp) (p : Addr), Same H H' → H p = none → Pot H' p 0 → Q (.ref p) H'
def spCells (K : PySem.W.Frag) : Sp := fun vs H Q _ => ∃ (a : Addr) (ns : List Int) (i : Int), vs = [.ref a, .int i] ∧ SqL K H a (ns.map V.int) ∧ ns.length ≤ 63 ∧ 1 ≤ i ∧ i ≤ 10 ∧
  ∀ (H' : Hp) (p : Addr) (m : Nat), Same H H' → H p = none → m ≤ 10 → H' p = some (.lst ((List.range m).map fun j => V.int (j : Nat))) → Q (.ref p) H'
theorem tif_any {ta tb : TE} {σ : L2.St} {H : Hp} {Q : VK} {b : Bool} (h : ∀ z : Int, Q (.int z) H) (ha : (∀ z : Int, Q (.int z) H) → ta σ H Q) (hb : (∀ z : Int, Q (.int z) H) → tb σ H Q) : if b = true then ta σ H Q else tb σ H Q := by
  cases b with
  | true => exact iteT (ha h)
  | false => exact iteF (hb h)
theorem tif_any2 {ta tb : TE} {σ : L2.St} {H : Hp} {Q : VK} {b : Bool} (h : ∀ z : Int, Q (.int z) H) (ha : b = true → (∀ z : Int, Q (.int z) H) → ta σ H Q) (hb : (∀ z : Int, Q (.int z) H) → tb σ H Q) : if b = true then ta σ H Q else tb σ H Q := by
  cases b with
  | true => exact iteT (ha rfl h)
  | false => exact iteF (hb h)
theorem bit_ok (k : Bool) : -(2 ^ 64) < (if k = true then 1 else 0 : Int) ∧ (if k = true then 1 else 0 : Int) < 2 ^ 64 := by cases k <;> decide
theorem bit_nn (k : Bool) : 0 ≤ (if k = true then 1 else 0 : Int) := by cases k <;> decide
theorem sql_but {K : PySem.W.Frag} {H : Hp} {p l : Addr} {xs : List V} (h : SqL K (But H p) l xs) : SqL K H l xs := Same.seq but_same h
end Er
namespace K10
open PySem PySem.Spec PyProof.Rows L2 Er
section
variable {P : Program} {w : World} {K : PySem.W.Frag} {mg : Str → Option Value} {base : Heap} {f : Addr} {fd : FuncData}
theorem sc_take : FnScope ["pot", "upto", "digit", "prime", "blend"] ["pot", "upto"] (defScope s_take) := ⟨rfl, rfl, rfl, by decide +kernel, rfl, by decide +kernel, by decide +kernel⟩
theorem ok_take (T : Tx K mg) (F : FunD K "_law_take" "_law_take" (defArgs s_take) (defBody s_take) (defScope s_take) [] [] f fd) : FnOk P w K mg base CX0 1 f fd ["pot", "upto"] spTake := by
  refine F.ok sc_take (fun vs H Q E h => ?_) (fun cdv A outer s H vs Q E hr h => ?_)
  · obtain ⟨p, u, n, rfl, _⟩ := h
    rfl
  · obtain ⟨p, u, n, rfl, hu, hu2, ⟨a, b, c, hp, ha, hb, hb2, hc, hc2, hn⟩, hn2, k⟩ := h
    refine ⟨_, (pss_cons (ps_if (pt_cmpR op_gt (pe_ix ix_list (pv 0) pe_int (fun _ _ => rfl)) pe_int (nomark _))
        (pss_cons (ps_set (i := 2) sc_take.nd rfl (Or.inl rfl) (pe_op op_mod (pe_callTy call_int1 (by rfl) (T.fr "int" (by decide +kernel)) (by decide +kernel) (pa_cons (pe_ix ix_list (pv 0) pe_int (fun _ _ => rfl)) pa_nil)) (pv 1)))
        (pss_cons (ps_asg (pe_op op_fdiv (pe_ix ix_list (pv 0) pe_int (fun _ _ => rfl)) (pv 1)) (pg_sub (pv 0) pe_int set_list))
        (pss_one (ps_ret (pv 2)))))
        pss_nil)
      (pss_cons (ps_asg (pe_op op_add (pe_ix ix_list (pv 0) pe_int (fun _ _ => rfl)) pe_int) (pg_sub (pv 0) pe_int set_list))
      (pss_cons (ps_set (i := 3) sc_take.nd rfl (Or.inl rfl) (pe_ix ix_list (pe_lst (pa_cons pe_int (pa_cons pe_int (pa_cons pe_int (pa_cons pe_int (pa_cons pe_int pa_nil)))))) (pe_op op_mod (pe_callTy call_int1 (by rfl) (T.fr "int" (by decide +kernel)) (by decide +kernel) (pa_cons (pe_ix ix_list (pv 0) pe_int (fun _ _ => rfl)) pa_nil)) pe_int) (fun _ _ => rfl)))
      (pss_cons (ps_set (i := 4) sc_take.nd rfl (Or.inl rfl) (pe_op op_mod (pe_callTy call_int1 (by rfl) (T.fr "int" (by decide +kernel)) (by decide +kernel) (pa_cons (pe_op op_pow (pe_callTy call_int1 (by rfl) (T.fr "int" (by decide +kernel)) (by decide +kernel) (pa_cons (pe_op op_add (pe_op op_add (pe_ix ix_list (pv 0) pe_int (fun _ _ => rfl)) (pe_op op_mul (pe_op op_mul pe_int (pe_ix ix_list (pv 0) pe_int (fun _ _ => rfl))) (pe_ix ix_list (pv 0) pe_int (fun _ _ => rfl)))) pe_int) pa_nil)) pe_int) pa_nil)) (pv 3)))
      (pss_cons (ps_set (i := 4) sc_take.nd rfl (Or.inl rfl) (pe_op op_mod (pe_callTy call_int1 (by rfl) (T.fr "int" (by decide +kernel)) (by decide +kernel) (pa_cons (pe_op op_mul (pv 4) (pe_op op_add (pe_op op_mod (pe_callTy call_int1 (by rfl) (T.fr "int" (by decide +kernel)) (by decide +kernel) (pa_cons (pv 4) pa_nil)) pe_int) (pe_op op_mul pe_int (pe_ix ix_list (pv 0) pe_int (fun _ _ => rfl))))) pa_nil)) pe_int))
      (pss_one (ps_ret (pe_op op_mod (pe_callTy call_int1 (by rfl) (T.fr "int" (by decide +kernel)) (by decide +kernel) (pa_cons (pe_op op_fdiv (pv 4) pe_int) pa_nil)) (pv 1))))))))), ?_⟩
    refine ⟨.ref p, rfl, p, _, 0, .int a, rfl, rfl, SqL.of hp, rfl, a, 0, rfl, rfl, _, rfl, ite2 (fun e => ?_) (fun e => ?_)⟩
    · have ea : 0 < a := of_decide_eq_true e
      refine ⟨.ref p, rfl, p, _, 0, .int a, rfl, rfl, SqL.of hp, rfl, .inl ⟨a, rfl, .int u, rfl, a, u, rfl, rfl, hu, ?_⟩⟩
      refine ⟨.ref p, rfl, p, _, 0, .int a, rfl, rfl, SqL.of hp, rfl, .int u, rfl, a, u, rfl, rfl, ⟨hu, hu2⟩, .ref p, rfl, p, _, 0, 0, rfl, rfl, hp, rfl, ?_⟩
      refine ⟨_, rfl, k _ _ (by rw [but_upd]; exact Same.refl _) ⟨a / u, b, c, upd_same, Int.ediv_nonneg ha (by omega), hb, hb2, hc, by omega, by omega⟩ (Int.emod_nonneg _ (by omega)) (Int.emod_lt_of_pos _ hu)⟩
    · -- pot[2] = pot[2] + 1
      refine ⟨.ref p, rfl, p, _, 2, .int c, rfl, rfl, SqL.of hp, rfl, c, 1, rfl, rfl, .ref p, rfl, p, _, 2, 2, rfl, rfl, hp, rfl, ?_⟩
      have h1 : (upd H p (.lst [.int a, .int b, .int (c + 1)])) p = some (.lst [.int a, .int b, .int (c + 1)]) := upd_same
      have e1 : Same (But H p) (But (upd H p (.lst [.int a, .int b, .int (c + 1)])) p) := by rw [but_upd]; exact Same.refl _
      let H1 := upd H p (.lst [.int a, .int b, .int (c + 1)])
      change H1 p = _ at h1
      change Same (But H p) (But H1 p) at e1
      -- prime
      refine ⟨(by show 5 ≤ sizeLine; decide), fun q hq => ?_⟩
      have hp1 : H1 p ≠ none := by rw [h1]; exact fun z => nomatch z
      have ne : p ≠ q := fun e => hp1 (e ▸ hq)
      have e2 : Same (But H p) (But (upd H1 q (.lst [.int 2147483647, .int 2147483629, .int 2147483587, .int 2147483579, .int 2147483563])) p) := by
        have hq' : H1 q = none := hq
        rw [but_new hq' hp1]
        exact e1.trans (same_new (but_none hq'))
      have h2 : (upd H1 q (.lst [.int 2147483647, .int 2147483629, .int 2147483587, .int 2147483579, .int 2147483563])) p = some (.lst [.int a, .int b, .int (c + 1)]) := (upd_ne ne).trans h1
      refine ⟨.ref p, rfl, p, _, 2, .int (c + 1), rfl, rfl, SqL.of h2, rfl, .inl ⟨c + 1, rfl, c + 1, 5, rfl, rfl, (by decide : (0 : Int) < 5), ?_⟩⟩
      have hr0 : 0 ≤ (c + 1) % 5 := Int.emod_nonneg _ (by decide)
      have hr1 : (c + 1) % 5 < 5 := Int.emod_lt_of_pos _ (by decide)
      obtain ⟨z, hz, hz1, hz2⟩ : ∃ z : Int, atI [V.int 2147483647, V.int 2147483629, V.int 2147483587, V.int 2147483579, V.int 2147483563] ((c + 1) % 5) = some (.int z) ∧ 2147483563 ≤ z ∧ z ≤ 2147483647 := by
        have q5 : (c + 1) % 5 = 0 ∨ (c + 1) % 5 = 1 ∨ (c + 1) % 5 = 2 ∨ (c + 1) % 5 = 3 ∨ (c + 1) % 5 = 4 := by omega
        rcases q5 with e | e | e | e | e <;> rw [e]
        · exact ⟨2147483647, rfl, by decide, by decide⟩
        · exact ⟨2147483629, rfl, by decide, by decide⟩
        · exact ⟨2147483587, rfl, by decide, by decide⟩
        · exact ⟨2147483579, rfl, by decide, by decide⟩
        · exact ⟨2147483563, rfl, by decide, by decide⟩
      refine ⟨q, _, _, _, rfl, rfl, SqL.of upd_same, hz, ?_⟩
      -- blend, twice
      have cc : (c + 1) * (c + 1) ≤ 100000 * 100000 := Int.mul_le_mul (by omega) (by omega) (by omega) (by decide)
      have cc0 : 0 ≤ (c + 1) * (c + 1) := Int.mul_nonneg (by omega) (by omega)
      have cc1 : 98161 * (c + 1) * (c + 1) = 98161 * ((c + 1) * (c + 1)) := Int.mul_assoc _ _ _
      refine ⟨.ref p, rfl, p, _, 1, .int b, rfl, rfl, SqL.of h2, rfl, .ref p, rfl, p, _, 2, .int (c + 1), rfl, rfl, SqL.of h2, rfl, _, _, rfl, rfl, .inl ⟨by decide, by decide⟩, .ref p, rfl, p, _, 2, .int (c + 1), rfl, rfl, SqL.of h2, rfl, _, _, rfl, rfl, .inr ⟨by omega, by omega⟩, _, _, rfl, rfl, _, _, rfl, rfl, .inl ⟨_, rfl, _, _, rfl, rfl, ⟨by decide, by decide, ?_⟩, .inl ⟨_, rfl, _, rfl, _, _, rfl, rfl, (by show (0 : Int) < z; omega), ?_⟩⟩⟩
      · omega
      · have zp : (0 : Int) < z := by omega
        have zn : z ≠ 0 := by omega
        refine ⟨_, rfl, _, rfl, .inl ⟨_, rfl, _, _, rfl, rfl, (by decide : (0 : Int) < 10289), .ref p, rfl, p, _, 2, .int (c + 1), rfl, rfl, SqL.of h2, rfl, _, _, rfl, rfl, .inl ⟨by decide, by decide⟩, _, _, rfl, rfl, _, _, rfl, rfl, .inl ⟨Int.lt_of_lt_of_le (by decide) (Int.emod_nonneg _ zn), Int.lt_trans (Int.emod_lt_of_pos _ zp) (by omega)⟩, .inl ⟨_, rfl, _, _, rfl, rfl, (by decide : (0 : Int) < 2305843009213693907), ?_⟩⟩⟩
        refine ⟨_, rfl, _, _, rfl, rfl, ⟨by decide, by decide⟩, .inl ⟨_, rfl, _, rfl, _, _, rfl, rfl, hu, k _ _ e2 ⟨a, b, c + 1, h2, ha, hb, hb2, by omega, by omega, by omega⟩ (Int.emod_nonneg _ (by omega)) (Int.emod_lt_of_pos _ hu)⟩⟩
theorem sc_pot : FnScope ["script", "place", "cell", "own", "small"] ["script", "place"] (defScope s_pot) := ⟨rfl, rfl, rfl, by decide +kernel, rfl, by decide +kernel, by decide +kernel⟩
theorem sc_cells : FnScope ["script", "limit"] ["script", "limit"] (defScope s_cells) := ⟨rfl, rfl, rfl, by decide +kernel, rfl, by decide +kernel, by decide +kernel⟩
theorem ok_pot (T : Tx K mg) (F : FunD K "_law_pot" "_law_pot" (defArgs s_pot) (defBody s_pot) (defScope s_pot) [] [] f fd) : FnOk P w K mg base CX0 1 f fd ["script", "place"] (spPot K) := by
  refine F.ok sc_pot (fun vs H Q E h => ?_) (fun cdv A outer s H vs Q E hr h => ?_)
  · obtain ⟨a, ns, i, rfl, _⟩ := h
    rfl
  · obtain ⟨a, ns, i, rfl, hS, hl, h0, h1, k⟩ := h
    refine ⟨_, (pss_cons (ps_set (i := 2) sc_pot.nd rfl (Or.inl rfl) (pe_ifExp (pt_cmpR op_lt (pv 1) (pe_callB call_len_seq (by rfl) (T.fr "len" (by decide +kernel)) PySem.boot_len (pa_cons (pv 0) pa_nil)) (nomark _)) (pe_ix ix_list (pv 0) (pv 1) (fun _ _ => rfl)) (pe_op op_add (pe_op op_mul pe_int (pv 1)) pe_int)))
      (pss_cons (ps_set (i := 3) sc_pot.nd rfl (Or.inl rfl) (pe_op op_mul (pe_op op_mod (pe_callTy call_int1 (by rfl) (T.fr "int" (by decide +kernel)) (by decide +kernel) (pa_cons (pe_callB call_abs (by rfl) (T.fr "abs" (by decide +kernel)) (by decide +kernel) (pa_cons (pv 2) pa_nil)) pa_nil)) (pe_op op_powC (pe_op op_powC pe_int pe_int) pe_int)) (pe_callTy call_int1 (by rfl) (T.fr "int" (by decide +kernel)) (by decide +kernel) (pa_cons (pe_cmpR op_ge (pe_callB call_abs (by rfl) (T.fr "abs" (by decide +kernel)) (by decide +kernel) (pa_cons (pv 2) pa_nil)) (pe_op op_powC pe_int pe_int) (nomark _)) pa_nil))))
      (pss_cons (ps_set (i := 4) sc_pot.nd rfl (Or.inl rfl) (pe_op op_mod (pe_callTy call_int1 (by rfl) (T.fr "int" (by decide +kernel)) (by decide +kernel) (pa_cons (pv 2) pa_nil)) pe_int))
      (pss_one (ps_ret (pe_lst (pa_cons (pv 3) (pa_cons (pe_op op_mod (pe_callTy call_int1 (by rfl) (T.fr "int" (by decide +kernel)) (by decide +kernel) (pa_cons (pe_op op_add (pe_op op_add (pe_op op_mul (pv 4) pe_int) (pe_op op_mul (pe_op op_mul pe_int (pv 1)) (pv 1))) pe_int) pa_nil)) pe_int) (pa_cons pe_int pa_nil))))))))), ?_⟩
    refine ⟨.int i, rfl, .ref a, rfl, a, _, rfl, .inl hS, _, _, rfl, rfl, _, rfl, ?_⟩
    refine tif_any2 (fun cell => ?_) (fun hlt q => ?_) (fun q => ?_)
    · refine ⟨_, rfl, cell, rfl, .inl ⟨_, rfl, _, _, rfl, rfl, (by unfold CPowC; decide +kernel : CPowC 10 60), _, _, rfl, rfl, (by unfold CPowC; decide +kernel : CPowC (10 ^ Int.toNat 60) 5), _, _, rfl, rfl, (by decide +kernel : (0 : Int) < (10 ^ Int.toNat 60) ^ Int.toNat 5), ?_⟩⟩
      refine ⟨_, rfl, cell, rfl, _, _, rfl, rfl, (by unfold CPowC; decide +kernel : CPowC 10 18), _, _, rfl, rfl, .inr ⟨_, rfl, _, _, rfl, rfl, .inr (bit_ok _), ?_⟩⟩
      refine ⟨_, rfl, .inl ⟨_, rfl, _, _, rfl, rfl, (by decide : (0 : Int) < 2305843009213693951), ?_⟩⟩
      refine ⟨_, rfl, _, rfl, _, _, rfl, rfl, .inr ⟨by decide, by decide⟩, _, rfl, _, _, rfl, rfl, .inl ⟨by decide, by decide⟩, _, rfl, _, _, rfl, rfl, .inr ⟨by omega, by omega⟩, _, _, rfl, rfl, _, _, rfl, rfl, .inl ⟨_, rfl, _, _, rfl, rfl, (by decide : (0 : Int) < 2305843009213693921), (by show 3 ≤ sizeLine; decide), fun p hp => ?_⟩⟩
      refine k _ p (same_new hp) hp ⟨_, _, 0, upd_same, Int.mul_nonneg (Int.emod_nonneg _ (by decide +kernel)) (bit_nn _), Int.emod_nonneg _ (by decide), Int.lt_trans (Int.emod_lt_of_pos _ (by decide)) (by decide), by decide, by decide, by decide⟩
    · have hz : (0 : Int) ≤ i := h0
      have hi : i < ((ns.map V.int).length : Int) := of_decide_eq_true hlt
      have hj : i.toNat < ns.length := by rw [List.length_map] at hi; omega
      have er : i = ((i.toNat : Nat) : Int) := by omega
      have z := atI_nat (xs := ns.map V.int) (j := i.toNat) (v := .int ns[i.toNat]) (by rw [List.getElem?_map, List.getElem?_eq_getElem hj]; rfl)
      rw [← er] at z
      exact ⟨.ref a, rfl, .int i, rfl, a, _, i, _, rfl, rfl, hS, z, q _⟩
    · exact ⟨_, rfl, _, _, rfl, rfl, .inl ⟨by decide, by decide⟩, _, _, rfl, rfl, q _⟩
theorem ok_cells (T : Tx K mg) (F : FunD K "_law_cells" "_law_cells" (defArgs s_cells) (defBody s_cells) (defScope s_cells) [] [] f fd) : FnOk P w K mg base CX0 1 f fd ["script", "limit"] (spCells K) := by
  refine F.ok sc_cells (fun vs H Q E h => ?_) (fun cdv A outer s H vs Q E hr h => ?_)
  · obtain ⟨a, ns, i, rfl, _⟩ := h
    rfl
  · obtain ⟨a, ns, i, rfl, hS, hl, h0, h1, k⟩ := h
    refine ⟨_, (pss_one (ps_ret (pe_listRg rfl (by rfl) (T.fr "list" (by decide +kernel)) (prg_1 (by rfl) (T.fr "range" (by decide +kernel)) (pe_callB (call_max2 rfl) (by rfl) (T.fr "max" (by decide +kernel)) (by decide +kernel) (pa_cons pe_int (pa_cons (pe_callB (call_min2 rfl) (by rfl) (T.fr "min" (by decide +kernel)) (by decide +kernel) (pa_cons (pv 1) (pa_cons (pe_callB call_len_seq (by rfl) (T.fr "len" (by decide +kernel)) PySem.boot_len (pa_cons (pv 0) pa_nil)) pa_nil))) pa_nil))))))), ?_⟩
    have e : ((ns.map V.int).length : Int) = ns.length := by rw [List.length_map]
    refine ⟨_, rfl, .ref a, rfl, a, _, rfl, .inl hS, _, _, rfl, _, _, rfl, _, rfl, ?_⟩
    generalize hm : (if (if ((ns.map V.int).length : Int) < i then ((ns.map V.int).length : Int) else i) > 1 then (if ((ns.map V.int).length : Int) < i then ((ns.map V.int).length : Int) else i) else 1) = m
    have m1 : 1 ≤ m ∧ m ≤ 10 := by
      rw [← hm, e]
      constructor <;> (repeat' split) <;> omega
    refine ⟨RgOk.of_le (by decide) (by omega) (by decide) (by omega), fun p hp => k _ p m.toNat (same_new hp) hp (by omega) ?_⟩
    rw [upd_same]
    have e2 : rgV 0 m = (List.range m.toNat).map fun j => V.int (j : Nat) := by
      unfold rgV
      rw [show (m - 0).toNat = m.toNat by omega]
      exact List.map_congr_left fun j _ => by rw [Int.zero_add]
    rw [e2]
end
end K10
set_option Elab.async false
set_option linter.all false
set_option maxRecDepth 100000
set_option maxHeartbeats 4000000
/-! len(o), x in o, x not in o by the own methods of o's class. -/
namespace Er
open PySem PySem.Spec PyProof.Rows L2
section
variable {X : Cx} {pins : List (Addr × Obj)} {σ : L2.St} {H : Hp} {s : Shared} {CX : CXT} {C f : Addr} {fd : FuncData} {ps : List Str} {sp : Sp} {E : XK} {n : Nat} {A : Around}

/-- a def of the text, called from within a builtin -/
theorem own_call {vs : List V} {us : List Value} {Q : VK} (F : FnOk X.prog X.w X.K X.mg X.base CX n f fd ps sp) (hb : Binds X.K fd ps []) (hx : Passes CX X E) (sb : Sub X n A) (I : Inv X pins σ H s)
    (r : Vals vs us) (hsp : sp vs H Q E) : wpAny (model X.prog X.w) A (call (.ref f) us) (fun u s' => ∃ v H', Inv X pins σ H' s' ∧ RelV v u ∧ Q v H') X.xe s := by
  have e0 : Env0 X.prog X.w X.K X.mg X.base A X.stack s H := by
    have e := I.env0
    exact ⟨by rw [sb.fr]; exact e.frames, e.mod, e.bs, e.bsz, e.funs, e.frf, e.hok, e.bare⟩
  have hl := F.len _ _ _ _ hsp
  have hv := r.length
  refine wpAny_call (codeAny_mono (F.run A X.stack s H ⟨us, []⟩ us vs Q E sb.room e0 (by
    have := hb s us I.kIn (by rw [List.append_nil, ← hv]; exact hl)
    simpa using this) r hsp) fun r s' hq => ?_)
  cases r with
  | error e => exact hx pins σ H s e s' I hq
  | ok fl =>
    cases fl with
    | ret w => exact I.after hq
    | next => exact False.elim hq
    | brk => exact False.elim hq
    | cont => exact False.elim hq

/-- len(o) -/
def rLenO (C : Addr) (sp : Sp) (E : XK) : List V → Hp → VK → Prop := fun xs H Q => ∃ a dx fs, xs = [.ref a] ∧ H a = some (.ins C dx fs) ∧
  sp [.ref a] H (fun v H' => ∃ k : Nat, v = .int k ∧ k < 1000000 ∧ Q (.int k) H') E
theorem call_lenOwn (F : FnOk X.prog X.w X.K X.mg X.base CX n f fd ps sp) (hs : PySem.W.findIn X.K (.ref C) "__len__" = some (some (.ref f))) (hf : PySem.W.isFn X.K (.ref f) = true)
    (hb : Binds X.K fd ps []) (hx : Passes CX X E) (hr : Room (n + 1) X.A) : CallR X (.builtin "len") (rLenO C sp E) := by
  intro pins s σ H xs us Q I r h
  obtain ⟨a, dx, fs, rfl, ha, hsp⟩ := h
  obtain ⟨u, rfl, rx⟩ := vals1 r
  cases rx
  obtain ⟨mA, J, _⟩ := ins_get I.hok ha
  obtain ⟨od, J, _⟩ := J.look
  obtain ⟨m, hF⟩ := I.fr
  refine PySem.W.len_K hF I.ok.mod.kin J hs hf ?_
  refine wpAny_mono (own_call F hb hx (Sub.in1 ⟨hr, rfl⟩) I (show Vals [V.ref a] [Value.ref a] from .cons rfl .nil) hsp) (fun u s' q => ?_) fun _ _ x => x
  obtain ⟨v, H', I', rv, k, rfl, hk, q⟩ := q
  obtain ⟨t, rfl⟩ := rv
  refine ⟨⟨Int.natCast_nonneg k, by omega⟩, .int k, H', I'.tok _, ⟨_, rfl⟩, q⟩

/-- x in o -/
def rInO (C : Addr) (neg : Bool) (sp : Sp) (E : XK) : R2 := fun x y H Q => ∃ a dx fs, y = .ref a ∧ H a = some (.ins C dx fs) ∧
  sp [.ref a, x] H (fun v H' => ∃ b, v = .bl b ∧ Q (.bl (if neg then !b else b)) H') E
theorem own_contains {x : V} {v : Value} {a dx : Addr} {fs : List (Str × V)} {Q : Bool → Hp → Prop} (F : FnOk X.prog X.w X.K X.mg X.base CX n f fd ps sp) (hs : PySem.W.findIn X.K (.ref C) "__contains__" = some (some (.ref f))) (hf : PySem.W.isFn X.K (.ref f) = true)
    (hb : Binds X.K fd ps []) (hx : Passes CX X E) (sb : Sub X n A) (I : Inv X pins σ H s) (rx : RelV x v) (ha : H a = some (.ins C dx fs))
    (hsp : sp [.ref a, x] H (fun w H' => ∃ b, w = .bl b ∧ Q b H') E) :
    wpAny (model X.prog X.w) A (contains (.ref a) v) (fun b s' => ∃ H', Inv X pins σ H' s' ∧ Q b H') X.xe s := by
  obtain ⟨mA, J, _⟩ := ins_get I.hok ha
  obtain ⟨od, J, _⟩ := J.look
  obtain ⟨m, hF⟩ := I.fr
  have kin := (PySem.W.Frag.In.keeps I.ok.mod.kin hF.keep)
  have lk : ∀ {α : Type} {k : Option Value → Sem α} {Q : α → Shared → Prop} {E : Value → Shared → Prop}, wpAny (model X.prog X.w) A (k (some (.ref f))) Q E s → wpAny (model X.prog X.w) A (specialOf (.ref a) "__contains__" >>= k) Q E s := fun h =>
    wpAny_bind (wpAny_bind (J.type.here ((PySem.W.looks_findIn kin hs).here h)))
  unfold contains
  refine wpAny_holding ?_
  rw [stdlibNamesSay?_ref]
  refine lk ?_
  refine PySem.W.KFB.if_not rfl ?_
  unfold callSpecialUnlessNone?
  refine wpAny_bind (lk ?_)
  refine wpAny_holding (wpAny_bind ((PySem.W.bind_fn kin (.ref a) (beq_iff_eq.mp hf)).here ?_))
  refine PySem.W.KFB.if_not rfl ?_
  refine wpAny_bind (wpAny_mono (own_call F hb hx sb I (show Vals [V.ref a, x] [Value.ref a, v] from .cons rfl (.cons rx .nil)) hsp) (fun u s' q => ?_) fun _ _ x => x)
  obtain ⟨w, H', I', rv, b, rfl, q⟩ := q
  cases rv
  exact wpAny_pure (wpAny_truthy_bool ⟨H', I', q⟩)
theorem op_inOwn (F : FnOk X.prog X.w X.K X.mg X.base CX n f fd ps sp) (hs : PySem.W.findIn X.K (.ref C) "__contains__" = some (some (.ref f))) (hf : PySem.W.isFn X.K (.ref f) = true)
    (hb : Binds X.K fd ps []) (hx : Passes CX X E) (hr : Room n X.A) : OpR X (compareOp .In) (rInO C false sp E) := by
  intro pins s σ H x y v u Q I rx ry h
  obtain ⟨a, dx, fs, rfl, ha, hsp⟩ := h
  cases ry
  exact wpAny_bind (wpAny_mono (own_contains F hs hf hb hx ⟨hr, rfl⟩ I rx ha hsp) (fun b s' q => let ⟨H', I', q⟩ := q; wpAny_pure ⟨.bl b, H', I', rfl, q⟩) fun _ _ x => x)
theorem op_notInOwn (F : FnOk X.prog X.w X.K X.mg X.base CX n f fd ps sp) (hs : PySem.W.findIn X.K (.ref C) "__contains__" = some (some (.ref f))) (hf : PySem.W.isFn X.K (.ref f) = true)
    (hb : Binds X.K fd ps []) (hx : Passes CX X E) (hr : Room n X.A) : OpR X (compareOp .NotIn) (rInO C true sp E) := by
  intro pins s σ H x y v u Q I rx ry h
  obtain ⟨a, dx, fs, rfl, ha, hsp⟩ := h
  cases ry
  exact wpAny_bind (wpAny_mono (own_contains F hs hf hb hx ⟨hr, rfl⟩ I rx ha hsp) (fun b s' q => let ⟨H', I', q⟩ := q; wpAny_pure ⟨.bl (!b), H', I', rfl, q⟩) fun _ _ x => x)
end
end Er
set_option Elab.async false
set_option linter.all false
set_option maxRecDepth 100000
set_option maxHeartbeats 4000000
/-! So many unlike ones of a pool, in a drawn sequence. -/
namespace Er
open PySem PySem.Spec PyProof.Rows L2
def spSome (K : PySem.W.Frag) : Sp := fun vs H Q _ => ∃ (p l : Addr) (m : Nat) (ps : List Str) (n : Int), vs = [.ref p, .ref l, .int (m : Int)] ∧ SqL K (But H p) l (sV ps) ∧ ps.length ≤ 1000 ∧ m ≤ ps.length ∧ ps.Nodup ∧ Pot H p n ∧ n + m < 100000 ∧
  ∀ (H' : Hp) (q : Addr) (ws : List Str), Same (But H p) (But H' p) → Pot H' p (n + m) → H q = none → H' q = some (.lst (sV ws)) → ws.length = m → ws.Nodup → (∀ x ∈ ws, x ∈ ps) → Q (.ref q) H'
theorem off_pot {H H' : Hp} {p b : Addr} {o : HO} (s : Same (But H p) (But H' p)) (ne : b ≠ p) (e : H b = some o) : H' b = some o := (del_ne ne).symm.trans (s b o ((del_ne ne).trans e))
theorem sV_len (ws : List Str) : (sV ws).length = ws.length := List.length_map ..
theorem sV_at {ws : List Str} {k : Nat} {y : Str} (h : ws[k]? = some y) : (sV ws)[k]? = some (.str y) := by
  unfold sV
  rw [List.getElem?_map, h]
  rfl
theorem sV_snoc (ws : List Str) (y : Str) : sV ws ++ [V.str y] = sV (ws ++ [y]) := by
  unfold sV
  rw [List.map_append]
  rfl
theorem sV_erase : ∀ (ws : List Str) (k : Nat), (sV ws).eraseIdx k = sV (ws.eraseIdx k)
  | [], _ => rfl
  | _ :: _, 0 => rfl
  | w :: ws, k + 1 => by
    show V.str w :: (sV ws).eraseIdx k = V.str w :: sV (ws.eraseIdx k)
    rw [sV_erase ws k]
theorem erase_perm : ∀ {rest : List Str} {k : Nat} {y : Str}, rest[k]? = some y → (y :: rest.eraseIdx k).Perm rest
  | [], _, _, h => by simp at h
  | a :: r, 0, y, h => by
    simp at h
    subst h
    exact List.Perm.refl _
  | a :: r, k + 1, y, h => by
    have h2 : r[k]? = some y := by simpa using h
    show (y :: a :: r.eraseIdx k).Perm (a :: r)
    exact (List.Perm.swap a y _).trans ((erase_perm h2).cons a)
theorem perm_take {ws rest ps : List Str} {k : Nat} {y : Str} (h : (ws ++ rest).Perm ps) (e : rest[k]? = some y) : ((ws ++ [y]) ++ rest.eraseIdx k).Perm ps := by
  rw [List.append_assoc, List.singleton_append]
  exact ((erase_perm e).append_left ws).trans h
end Er
set_option Elab.async false
set_option linter.all false
set_option maxRecDepth 100000
set_option maxHeartbeats 4000000
/-! A caught error that outlives its except suite: try .. except x as n: caught = n. -/
namespace Er
open PySem PySem.Spec PyProof.Rows L2
/-- at e: an error that was caught, of the class cl, its dict at d -/
def exk (e : Addr) (cl : Value) (d : Option Addr) : HO := .ext fun h => ∃ o vs, h.get? e = some o ∧ Zc cl d o ∧ o.data = .fields vs
section
variable {X : Cx} {pins : List (Addr × Obj)} {σ : L2.St} {H : Hp} {s s' : Shared} {a : Addr} {o : HO}
theorem exk_ok {P : Program} {w : World} {H : Hp} {h : Heap} {cl : Value} {d : Option Addr} {ob : Obj} {vs : Array Value} (g : h.get? a = some ob) (z : Zc cl d ob) (f : ob.data = .fields vs) : ObjOk P w H h a (exk a cl d) :=
  ⟨⟨ob, vs, g, z, f⟩, ⟨ob, g⟩, fun h1 h2 ⟨o2, v2, g2, z2, f2⟩ k => ⟨o2, v2, k o2 g2, z2, f2⟩⟩
theorem exk_at {P : Program} {w : World} {H : Hp} {h : Heap} {cl : Value} {d : Option Addr} (hok : HOk P w H h) (e : H a = some (exk a cl d)) : ∃ ob vs, h.get? a = some ob ∧ Zc cl d ob ∧ ob.data = .fields vs := (hok a _ e).1
/-- a thing of ours that came behind the state s0 is taken up -/
theorem adopt {s0 : Shared} (J : Inv X pins σ H s0) (J1 : Inv X pins σ H s) (g : s0.heap.get? a = none) (na : H a = none) (new : ObjOk X.prog X.w (upd H a o) s.heap a o) : Inv X pins σ (upd H a o) s := by
  have away : ∀ {b : Addr} {u : Obj}, s0.heap.get? b = some u → b ≠ a := fun q z => by
    rw [z, g] at q
    cases q
  have apart : ∀ {b : Addr} {u : HO}, H b = some u → b ≠ a := fun q z => by
    rw [z, na] at q
    cases q
  have old : ∀ {b : Addr} {u : Obj}, X.s_0.heap.get? b = some u → b ∉ X.ex → b ≠ a := fun q n => by
    obtain ⟨u, q2⟩ := J.base.there _ _ q n
    exact away q2
  refine ⟨J1.ok, J1.os, J1.bare, ⟨J1.base.keep, J1.base.slot, fun b u q n x => ?_, J1.base.there, fun b xs q => ?_, fun b u v q => ?_, fun b ps q => ?_⟩, J1.loc, J1.cell, ?_, fun x c q => ?_, fun p hp => ?_, fun b u q => ?_, J1.len⟩
  · rw [upd_ne (old q x)]
    exact J1.base.free b u q n x
  · have z := J1.base.tups b xs q
    rw [upd_ne (apart z)]
    exact z
  · have z := J1.base.frzs b u v q
    rw [upd_ne (apart z)]
    exact z
  · obtain ⟨m, z⟩ := J1.base.tbls b ps q
    exact ⟨m, by rw [upd_ne (apart z)]; exact z⟩
  · obtain ⟨m, hn, _⟩ := J.loc
    obtain ⟨_, _, _, q, _⟩ := hn
    rw [upd_ne (away q)]
    exact J.free
  · obtain ⟨v, u, q2, _⟩ := J.cell x c q
    rw [upd_ne (away q2)]
    exact J.freeC x c q
  · obtain ⟨p1, p2, p3, p4, p5⟩ := J1.pin p hp
    refine ⟨p1, ?_, p3, p4, p5⟩
    rw [upd_ne (away (J.pin p hp).1)]
    exact p2
  · by_cases z : b = a
    · subst z
      rw [upd_same] at q
      cases q
      exact new
    · rw [upd_ne z] at q
      exact (J1.hok b u q).stay (fun _ _ _ y => y) (fun c y => by rw [upd_ne (apart y)]; exact y) (fun c xs y => by rw [upd_ne (apart y)]; exact y)
/-- in the suite, nothing pinned but what was -/
theorem in_suite (I : Inv X pins σ H s) (b : Addr) : Inv (X.suite b (X.pn ++ pins)) [] σ H s :=
  ⟨I.ok.suite _ _, I.os, I.bare, I.base, I.loc, I.cell, I.free, I.freeC, fun p hp => I.pin p (by rwa [List.append_nil] at hp), I.hok, I.len⟩
theorem out_suite {b : Addr} {pins2 : List (Addr × Obj)} (I : Inv (X.suite b (X.pn ++ pins)) pins2 σ H s) (ok : X.Ok) : Inv X pins σ H s :=
  ⟨ok, I.os, I.bare, I.base, I.loc, I.cell, I.free, I.freeC, fun p hp => I.pin p (List.mem_append_left _ hp), I.hok, I.len⟩
end
/-- what such a clause wishes of an error of the body: the name is in slot i -/
def wKeep (K : PySem.W.Frag) (c : Value) (i : Nat) (ts : TS) (D : Ends) : WX := fun cl d σ H => PySem.W.exmOne K cl c = some true ∧
  ∀ a, H a = none → ts { nx := fun σ2 H2 => D.nx (σ2.set i none) H2, rt := D.rt, bk := fun σ2 H2 => D.bk (σ2.set i none) H2, ct := fun σ2 H2 => D.ct (σ2.set i none) H2 } (σ.set i (some (.ref a))) (upd H a (exk a cl d))
section
variable {X : Cx} {x n : Str} {c : Value} {i : Nat} {body suite : List Stmt} {b0 : Stmt} {np pos pos2 : Pos} {tb : WX → TS} {ts : TS}
theorem ps_try_keep (hs : X.stack = X.env :: X.outer) (hf : X.env.frame = some X.env.locals) (hN : X.N.Nodup) (hi : X.N[i]? = some n) (hl : X.env.kindOf n = some .local) (hc : Names X x c)
    (hb : ∀ (W : WX) (pn : List (Addr × Obj)) (xe : Value → Shared → Prop), Takes (X.tr pn xe) W → PassesOwn (model X.prog X.w) X.A X.env xe → PSs (X.tr pn xe) body (tb W))
    (hsu : ∀ (a : Addr) (pn : List (Addr × Obj)), PSs (X.suite a pn) (b0 :: suite) ts) :
    PS X (.Try body [.ExceptHandler (some (.Name x np)) (some n) (b0 :: suite) pos2] [] [] pos) (fun D σ H => tb (wKeep X.K c i ts D) D σ H) := by
  refine ⟨fun pins s σ H D I h => ?_⟩
  have ok := I.ok
  have fr : X.A.frames = some (X.env :: X.outer) := ok.frames.trans (congrArg some hs)
  refine wpAny_Try_except ?_
  have bodyRun := (hb (wKeep X.K c i ts D) (X.pn ++ pins) (fun e s1 => wpAny (model X.prog X.w) X.A (noteFrame e X.env) (fun _ s2 => wpAny (model X.prog X.w) X.A (setFlight e none) (fun _ s3 =>
    wpAny (model X.prog X.w) X.A (handleBy e X.env [.ExceptHandler (some (.Name x np)) (some n) (b0 :: suite) pos2]) (SP X pins D) X.xe s3) X.xe s2) X.xe s1) (fun u s1 thrown => ?_) PassesOwn.looking).run [] s σ H D (I.toTry _) h
  · refine wpAny_mono bodyRun (fun fl s1 sp => ?_) fun _ _ z => z
    cases fl with
    | next =>
      obtain ⟨σ1, H1, J, q⟩ := sp
      exact wpAny_execs_nil ⟨σ1, H1, J.ofTry ok, q⟩
    | ret u =>
      obtain ⟨v, σ1, H1, J, r, q⟩ := sp
      exact ⟨v, σ1, H1, J.ofTry ok, r, q⟩
    | brk =>
      obtain ⟨σ1, H1, J, q⟩ := sp
      exact ⟨σ1, H1, J.ofTry ok, q⟩
    | cont =>
      obtain ⟨σ1, H1, J, q⟩ := sp
      exact ⟨σ1, H1, J.ofTry ok, q⟩
  · obtain ⟨a, B, sI, pins1, σ1, H1, cl, d, rfl, J0, nb, up, sky, na, os, ag, hm, yes⟩ := thrown
    have J : Inv X pins σ1 H1 sI := J0.ofTry ok
    rw [show (X.tr (X.pn ++ pins) _).stack = X.env :: X.outer from hs] at sky
    refine Sky.land Zc.steady fr hf sky fun h2 fly2 up2 => ?_
    obtain ⟨o2, v2, g2, z2, f2⟩ := fly2.there
    have aIn : a ∉ frs (X.env :: X.outer) := fun m => by
      obtain ⟨_, o, q, w⟩ := fly2.2.2.1.mem m
      rw [g2] at q
      cases q
      exact w _ f2
    have gI : sI.heap.get? a = none := by
      cases q : sI.heap.get? a with
      | none => rfl
      | some u =>
        have z := nb a u q (by rw [show (X.tr (X.pn ++ pins) _).stack = X.env :: X.outer from hs]; exact aIn)
        rw [fly2.2.1] at z
        cases z
    have land : ∀ h, HandSPX.FlyingZ B (X.env :: X.outer) a (Zc cl d) h → s1.heap.UpToSlots h → Inv X pins σ1 (upd H1 a (exk a cl d)) { s1 with heap := h } := fun h fly u => by
      obtain ⟨o, v, g, z, f⟩ := fly.there
      exact adopt J (J.landed nb fly.1 (up.trans u) os ag) gI na (exk_ok g z f)
    have I2 := in_suite (land h2 fly2 up2) a
    refine wpAny_handleBy_cons (codeAny_handlers_test ?_) (fun q => nomatch q)
    have isC : PySem.W.Looks (model X.prog X.w) h2 (typeOf (.ref a)) cl := fun A Q E s k q => wpAny_typeOf_ref (k _ _ g2) (by rw [z2.1]; exact q)
    have hit := PySem.W.exm_one (M := model X.prog X.w) (land h2 fly2 up2).kIn isC hm
    have name : ∀ {Q : Value → Shared → Prop} {E : Value → Shared → Prop}, Q c { s1 with heap := h2 } → wpAny (model X.prog X.w) (X.A.mark (some (.ref a))) (eval (.Name x np) X.env) Q E { s1 with heap := h2 } := fun {Q E} q => by
      obtain ⟨g, db, m | ⟨m, v, nn⟩⟩ := hc
      · exact ld_glob (X := X.suite a (X.pn ++ pins)) I2 g m q db
      · exact ld_blt (X := X.suite a (X.pn ++ pins)) I2 g m v q nn db
    refine name (hit.here (codeAny_handlers_suite_as (HandSPX.lands_againZ fly2 fun h3 fly3 up3 => ?_)))
    have I3 := in_suite (land h3 fly3 (up2.trans up3)) a
    refine store_ok (X := X.suite a (X.pn ++ pins)) (v := .ref a) I3 hN hi (.inl hl) rfl (fun s4 I4 => ?_) (.inr hl)
    refine wpAny_mono ((hsu a (X.pn ++ pins)).run [] s4 _ _ _ I4 (yes a na)) (fun fl s5 sp => ?_) (fun _ _ z => False.elim z)
    have leave : ∀ {σ5 : L2.St} {H5 : Hp} {Q : Shared → Prop}, Inv (X.suite a (X.pn ++ pins)) [] σ5 H5 s5 → (∀ s6, Inv X pins (σ5.set i none) H5 s6 → Q s6) → wpAny (model X.prog X.w) X.A (do bindName X.env n .none; unbindBehindTheSuite X.env n pos2) (fun _ s6 => Q s6) X.xe s5 :=
      fun I5 q => gone_ok (out_suite I5 ok) hN hi hl q
    cases fl with
    | next =>
      obtain ⟨σ5, H5, I5, q⟩ := sp
      exact leave I5 fun s6 I6 => ⟨_, _, I6, q⟩
    | ret u =>
      obtain ⟨v, σ5, H5, I5, r, q⟩ := sp
      exact leave I5 fun s6 I6 => ⟨_, _, _, I6, r, q⟩
    | brk =>
      obtain ⟨σ5, H5, I5, q⟩ := sp
      exact leave I5 fun s6 I6 => ⟨_, _, I6, q⟩
    | cont =>
      obtain ⟨σ5, H5, I5, q⟩ := sp
      exact leave I5 fun s6 I6 => ⟨_, _, I6, q⟩
end
/-- a kept error of the class at C: its dict at d holds v -/
def ErrK (H : Hp) (e C d : Addr) (v : V) : Prop := H e = some (exk e (.ref C) (some d)) ∧ H d = some (.xd [("value", v)])
theorem ErrK.same {H H' : Hp} {e C d : Addr} {v : V} (s : Same H H') (h : ErrK H e C d v) : ErrK H' e C d v := ⟨s _ _ h.1, s _ _ h.2⟩
section
variable {X : Cx} {pins : List (Addr × Obj)} {σ : L2.St} {H : Hp} {s : Shared}
theorem inst_errK {e C d : Addr} {v : V} (I : Inv X pins σ H s) (h : ErrK H e C d v) : ∃ ox od, PySem.W.InstAt s.heap e ox C (some od) ∧ ∃ u, RelV v u ∧ PySem.W.lookIn "value" od = some (some u) := by
  obtain ⟨ob, vs, g, z, f⟩ := exk_at I.hok h.1
  obtain ⟨mA, hns, rel⟩ : ∃ mA, s.heap.Ns1 d mA ∧ ∀ f, RelO (List.lookup f [(("value" : Str), v)]) (mA f) := I.hok d _ h.2
  obtain ⟨od, hod, hl⟩ := lookIn_ns hns
  have l : List.lookup ("value" : Str) [(("value" : Str), v)] = some v := by simp [List.lookup]
  obtain ⟨u, hu, ru⟩ := RelO.some_of (v := v) (o := mA "value") (by rw [← l]; exact rel "value")
  obtain ⟨oc, odd, dt, sl⟩ := ob
  obtain ⟨z1, z2⟩ := z
  simp only at z1 z2
  subst z1 z2 f
  exact ⟨_, od, ⟨g, rfl, rfl, hod⟩, u, ru, by rw [hl, hu]⟩
/-- isinstance(e, c), e such an error -/
def rIsErK (K : PySem.W.Frag) : List V → Hp → VK → Prop := fun xs H Q => ∃ (e C fI d : Addr) (v c : V) (u : Value) (b : Bool), xs = [.ref e, c] ∧ ErC K C fI ∧ ErrK H e C d v ∧ (∀ w, RelV c w → w = u) ∧ PySem.W.kitOne K (.ref C) u = some b ∧ Q (.bl b) H
theorem call_isErK : CallR X (.builtin "isinstance") (rIsErK X.K) := by
  intro pins s σ H xs us Q I r h
  obtain ⟨e, C, fI, d, v, c, u, b, rfl, T, E, hc, kb, q⟩ := h
  obtain ⟨u1, u2, rfl, r1, r2⟩ := vals2 r
  obtain rfl : u1 = Value.ref e := r1
  obtain rfl := hc _ r2
  obtain ⟨ox, od, J, _⟩ := inst_errK I E
  have isC : (PySem.W.clsIn X.K C).isSome = true := by
    obtain ⟨cd, hc, _⟩ := PySem.W.any_some T.hd
    rw [hc]
    rfl
  exact PySem.W.kia_one (PySem.W.kitx_exc (x := e) (od := some od) (ox := ox) isC T.hga T.hgt T.oex.exC T.hcl T.gs T.tk T.hm) I.kIn J kb (fun z => nomatch z) fun t => ⟨.bl b, H, I.tok t, rfl, q⟩
/-- e.value, e such an error -/
def tValK (K : PySem.W.Frag) (te : TE) : TE := fun σ H Q => te σ H fun x H1 => ∃ (e C fI d : Addr) (v : V), x = .ref e ∧ ErC K C fI ∧ ErrK H1 e C d v ∧ Q v H1
theorem pe_valueK {e : Expr} {te : TE} {pos : Pos} (he : PE X e te) (hb : attributeBase e "value" X.env (eval e X.env) = eval e X.env := by rfl) : PE X (.Attribute e "value" pos) (tValK X.K te) := by
  refine ⟨fun pins s σ H Q I h => attr_of hb (thn (he.run pins s σ H _ I h) fun u s1 got => ?_)⟩
  obtain ⟨x, H1, I1, rx, a, C, fI, d, v, rfl, T, E, q⟩ := got
  obtain rfl : u = Value.ref a := rx
  obtain ⟨ox, od, J, u, ru, hl⟩ := inst_errK I1 E
  exact PySem.HandSPX.exc_get I1.kIn J T.hga T.hgt T.oex.exC (PySem.W.findObj_own T.hd T.nv rfl hl) (handed_of ru) ⟨v, H1, I1.tok _, ru, q⟩
end
end Er
set_option Elab.async false
set_option linter.all false
set_option maxRecDepth 100000
set_option maxHeartbeats 4000000
/-! f(lambda: ..): the def that gets the lambda calls it where its slots are known, so a clause may go on with them. -/
namespace Er
open PySem PySem.Spec PyProof.Rows L2 LamX
/-- a def of the text, its code object known -/
theorem okC {P : Program} {w : World} {K : PySem.W.Frag} {mg : Str → Option Value} {base : Heap} {x qual : Str} {params : Arguments} {body : List Stmt} {scope : Scope} {dvs : List V} {kws : List (Str × V)} {fd : FuncData} {d : Str × Option Str} {CX : CXT} {N ps : List Str} {k : Nat} {sp : Sp}
    (F : FunD K x qual params body scope dvs kws (He.fAd K d) fd) (S : FnScope N ps scope) (len : ∀ vs H Q E, sp vs H Q E → vs.length = ps.length)
    (go : ∀ (A : Around) (outer : List Env) (s : Shared) (H : Hp) (vs : List V) (Q : VK) (E : XK), Room k (A.deeper (envOfC qual scope s.heap.objs.size (He.fAd K d) (.ref (He.codeOf K d)))) → sp vs H Q E →
      ∃ t, PSs (cxOf CX P w K mg base N qual scope (He.fAd K d) (.ref (He.codeOf K d)) A outer s H E) body t ∧ t { nx := fun _ H' => Q .non H', rt := Q } (L2.start N vs) H) : FnOk P w K mg base CX (k + 1) (He.fAd K d) fd ps sp := by
  obtain ⟨oc, od, dV, kV, doc, pm, an, cdv, ct, osl, rfl, lk, hc, _, _⟩ := F.ex
  obtain ⟨c, rfl⟩ := He.codeIn_ref hc
  have e : He.codeOf K d = c := He.codeOf_eq lk rfl
  rw [e] at go
  exact fn_of lk hc S len fun A outer s H vs Q E hr h => go A outer s H vs Q E hr h
/-- a lambda called: what leaves it may hang on the slots of the def that calls -/
def tAct (i : Nat) (f c' : Addr) (q : Str) (W : WX) (tl : XK → Hp → VK → Prop) : TE := fun σ H Q => ∃ E : XK, (∀ cls d H', E cls d H' → W cls d σ H') ∧ σ[i]? = some (some (.ref f)) ∧ H c' = some (CodeO c' q) ∧ tl E H Q
section
variable {X : Cx} {pins : List (Addr × Obj)} {σ : L2.St} {H : Hp} {s : Shared}
theorem act_at {CXg : CXT} {Eg : XK} {Ng : List Str} {qg : Str} {sg : Scope} {g f c' : Addr} {cdg pm ctv : Value} {params : Arguments} {body : Expr} {scope : Scope} {k i : Nat} {a : Str} {pn : List (Addr × Obj)} {xe : Value → Shared → Prop} {W : WX} {tb : XK → TE} {p1 p2 : Pos}
    (I : Inv X pins σ H s) (L : LamS X.env.scope scope) (hf : s.heap.get? f = some (PySem.W.kla_obj "<lambda>" (X.env.qual ++ "<lambda>") params body scope (cloFrom X.env.cells scope.names []) pm c' ctv)) (fn : H f = none) (fr : f ∉ frs X.stack)
    (bind : bindArgs (PySem.W.kla_fn "<lambda>" (X.env.qual ++ "<lambda>") params body scope (cloFrom X.env.cells scope.names []) pm (.ref c') ctv) ⟨[], []⟩ = pure [])
    (tk : Takes ((cxOf CXg X.prog X.w X.K X.mg X.base Ng qg sg g cdg X.A X.stack s H Eg).tr pn xe) W) (hr : Room (k + 1) (X.A.deeper (envOfC qg sg s.heap.objs.size g cdg)))
    (hbody : ∀ (A : Around) (outer : List Env) (s : Shared) (H : Hp) (E : XK), Room k (A.deeper (lamEnv X scope s.heap.objs.size f c')) → PE (lamCx X A outer s H E scope f c') body (tb E))
    (hN : Ng[i]? = some a) (hv : Vis sg a) (hd : (a == ("__debug__" : Str)) = false := by decide) (hcd : (a == ("__classdict__" : Str)) = false := by decide) :
    PE ((cxOf CXg X.prog X.w X.K X.mg X.base Ng qg sg g cdg X.A X.stack s H Eg).tr pn xe) (.Call (.Name a p1) [] [] p2) (tAct i f c' (X.env.qual ++ "<lambda>") W fun E H' Q' => tb E σ H' Q') := by
  refine ⟨fun pz sz σz Hz Q Iz ⟨E, hW, hs, hc, ht⟩ => ?_⟩
  refine wpAny_Call_Name_kw (thn ((pe_var (pos := p1) (i := i) hN hv hd hcd).run pz sz σz Hz (fun v H1 => v = .ref f ∧ H1 = Hz) Iz ⟨.ref f, hs, rfl, rfl⟩) fun u s1 ⟨v, H1, I1, r1, ev, eH⟩ => ?_)
  subst ev eH
  obtain rfl : u = Value.ref f := r1
  have here : s1.heap.get? f = some (PySem.W.kla_obj "<lambda>" (X.env.qual ++ "<lambda>") params body scope (cloFrom X.env.cells scope.names []) pm c' ctv) := I1.base.keep f _ hf fn fr fun z => nomatch (show f ∈ ([] : List Addr) from z)
  refine PySem.W.callWith_F0 ⟨_, _, _, _, here⟩ ?_
  have since : Un (frs X.stack) [] H H1 s.heap s1.heap := I1.base
  obtain ⟨⟨oc, vs, t, hoc, hdc, hvc⟩, _, _⟩ := I1.hok c' _ hc
  have run : codeAny (model X.prog X.w) (X.A.deeper (envOfC qg sg s.heap.objs.size g cdg)) (.call (.ref f) ⟨[], []⟩) (CR (L2.CX X.prog X.w) (envOfC qg sg s.heap.objs.size g cdg :: X.stack) X.prog X.w H1 s1 Q E) s1 := by
    refine PySem.W.kla_callFunE hr.depth here rfl L.co L.gen rfl ⟨c', oc, vs, t, rfl, hoc, hdc, hvc⟩ ?_
    rw [bind]
    refine wpAny_pure (wpAny_newFunctionEnv (fun y hy => (L.own y hy).2) (fun y hy => absurd hy (by simp)) (fun h2 ns sb => ⟨I1.nolimit.fresh _ sb, ?_⟩) L.kind)
    have old : ∀ b o, s1.heap.get? b = some o → h2.get? b = some o := fun b o e => sb.extBut b o (Nat.ne_of_lt (Heap.lt_size e)) (Heap.get?_push_of_some _ e)
    have J : Inv (lamCx X (X.A.deeper (envOfC qg sg s.heap.objs.size g cdg)) (envOfC qg sg s.heap.objs.size g cdg :: X.stack) s1 H1 E scope f c') [] σ H1 { s1 with heap := h2, toks := s1.toks + ([] : List (Str × Value)).length } :=
      lam_start2 I L I1.env0 hr.hd since ns old
    show codeAny _ _ (.expr body (lamEnv X scope s1.heap.objs.size f c')) _ _
    refine PySem.W.kla_codeExpr (wpAny_mono ((hbody _ _ s1 H1 E (hr.deeper _)).run [] _ _ H1 Q J ht) (fun v s2 got => ?_) fun _ _ z => z)
    obtain ⟨v2, H2, J2, rv, q⟩ := got
    exact ⟨v2, H2, J2.os, J2.bare, J2.base, J2.hok, rv, q⟩
  refine wpAny_call (codeAny_mono run fun r s2 got => ?_)
  cases r with
  | ok fl =>
    cases fl with
    | ret u => exact I1.after got
    | next => exact False.elim got
    | brk => exact False.elim got
    | cont => exact False.elim got
  | error e => exact tk e s2 (XE.of_call I1 (fun cls d H' h => hW cls d H' h) got)
end
/-- the def g that calls what it got, by its slot 0 -/
def GivesAt (X : Cx) (Ng : List Str) (x : Str) (sg : Scope) (g : Addr) (cdg : Value) (bg : List Stmt) (a : Str) (q : Str) (TT : (XK → Hp → VK → Prop) → Hp → VK → Prop) : Prop :=
  ∀ (f c' : Addr) (s : Shared) (H : Hp) (Q : VK) (tl : XK → Hp → VK → Prop),
    (∀ (W : WX) (pn : List (Addr × Obj)) (xe : Value → Shared → Prop) (p1 p2 : Pos), Takes ((cxOf CX0 X.prog X.w X.K X.mg X.base Ng x sg g cdg X.A X.stack s H E0).tr pn xe) W →
      PE ((cxOf CX0 X.prog X.w X.K X.mg X.base Ng x sg g cdg X.A X.stack s H E0).tr pn xe) (.Call (.Name a p1) [] [] p2) (tAct 0 f c' q W tl)) → (∀ (E : XK) (H2 : Hp) (Q1 Q2 : VK), (∀ v H3, Q1 v H3 → Q2 v H3) → tl E H2 Q1 → tl E H2 Q2) →
    H c' = some (CodeO c' q) → TT tl H Q → ∃ t, PSs (cxOf CX0 X.prog X.w X.K X.mg X.base Ng x sg g cdg X.A X.stack s H E0) bg t ∧ t { nx := fun _ H' => Q .non H', rt := Q } (L2.start Ng [.ref f]) H
section
variable {X : Cx}
theorem pe_lamA {T : List (Addr × Str)} {TT : (XK → Hp → VK → Prop) → Hp → VK → Prop} {x a : Str} {g c P : Addr} {k : Nat} {pg : Arguments} {bg : List Stmt} {sg : Scope} {fd : FuncData} {Ng : List Str} {params : Arguments} {body : Expr} {scope : Scope} {t : XK → TE} {p lpos pos : Pos}
    (hg : Gl X x) (hm : X.mg x = some (.ref g)) (F : FunD X.K x x pg bg sg [] [] g fd) (hb : Binds X.K fd [a] []) (Sg : FnScope Ng [a] sg) (hN : Ng[0]? = some a) (hv : Vis sg a)
    (hG : ∀ cdv : Value, GivesAt X Ng x sg g cdv bg a (X.env.qual ++ "<lambda>") TT) (TB : TabB X.base X.mg c P) (hcode : X.env.code = .ref c) (hT : (P, X.env.qual ++ "<lambda>") ∈ T) (hu : ∀ p ∈ T, p.1 = P → p.2 = X.env.qual ++ "<lambda>") (hr : Room (k + 2) X.A)
    (L : LamS X.env.scope scope) (hdef : defaultsOf params X.env = ([], [])) (bind : ∀ (q : Str) (cl : List (Str × Addr)) (pm cv ctv : Value), bindArgs (PySem.W.kla_fn "<lambda>" q params body scope cl pm cv ctv) ⟨[], []⟩ = pure [])
    (mono : ∀ (E : XK) (σ : L2.St) (H : Hp) (Q1 Q2 : VK), (∀ v H3, Q1 v H3 → Q2 v H3) → t E σ H Q1 → t E σ H Q2) (hbody : ∀ (A : Around) (outer : List Env) (s : Shared) (H : Hp) (E : XK) (f c' : Addr), Room k (A.deeper (lamEnv X scope s.heap.objs.size f c')) → PE (lamCx X A outer s H E scope f c') body (t E))
    (hdb : (x == ("__debug__" : Str)) = false := by decide) (hd : (a == ("__debug__" : Str)) = false := by decide) (hcd : (a == ("__classdict__" : Str)) = false := by decide) :
    PE X (.Call (.Name x p) [.Lambda params body scope lpos] [] pos) (tLam T TT t) := by
  obtain ⟨oc, od, dV, kV, doc, pm, an, cdv, ct, osl, rfl, lk, hc, _, _⟩ := F.ex
  refine ⟨fun pins s σ H Q I ⟨tabs, h⟩ => ?_⟩
  refine wpAny_Call_Name_kw (ld_glob I hg hm ?_ hdb)
  refine PySem.W.callWith_K (h₀ := X.base) I.ok.mod.kin F.kp ?_ (by rfl) (by rfl)
  show wpAny _ _ (spliced ((false, eval (.Lambda params body scope lpos) X.env) :: backTo pos (starEach [] X.env))) _ _ s
  refine Calls.spliced_cons (lam_make2 I TB hcode hT hu tabs hdef (L.has I.ok) fun f c' pm2 ctv H1 s1 I1 ext tabs1 hf fn fr hco => Calls.spliced_nil ⟨I1.kIn, ?_⟩)
  have run : codeAny (model X.prog X.w) X.A (.call (.ref g) ⟨[.ref f], []⟩) (CR CX0 X.stack X.prog X.w H1 s1 Q E0) s1 := by
    refine run_ofS (N := Ng) (ps := [a]) (us := [.ref f]) (vs := [.ref f]) lk hc Sg hr I1.env0 (hb s1 [.ref f] I1.kIn rfl) (.cons rfl .nil) rfl fun hr2 => ?_
    exact hG cdv f c' s1 H1 Q (fun E H2 Q2 => t E σ H2 Q2) (fun W pn xe p1 p2 tk => act_at (i := 0) (tb := t) I1 L hf fn fr (bind _ _ _ _ _) tk hr2 (fun A outer s H E hr3 => hbody A outer s H E f c' hr3) hN hv hd hcd) (fun E H2 Q1 Q2 => mono E σ H2 Q1 Q2) hco (h H1 ext tabs1)
  refine wpAny_call (codeAny_mono run fun r s2 got => ?_)
  cases r with
  | ok fl =>
    cases fl with
    | ret u => exact I1.after got
    | next => exact False.elim got
    | brk => exact False.elim got
    | cont => exact False.elim got
  | error e => exact (show False from got).elim
end
/-! ### the end of a row with tables -/
theorem walk_tab {l : PySem.W.OpenLaw} {n k : Nat} {q : Program} {loose : List Str} {XP : (Str → Option Value) → Heap → Prop} {YP : World → Heap → Prop} {d : DefRec} {CX : World → CXT} {x : Str} (hn : l.most = some n) (hn2 : n ≤ sizeLine) (hdf : d.params.defaults = []) (hr : Room k callerA)
    (F : ∀ (w : World) (mg : Str → Option Value) (fa : Addr) (h : Heap), YP w h → h.Ns mainGlobals mg → mg d.name = some (.ref fa) → ∃ K : PySem.W.Frag, K.In h ∧ LawAtS l w K (CX w) k n x mg fa h)
    (out : ∀ (w : World) (H : Hp) (s : Shared) (e : Value) (s' : Shared), CX w [] H s (fun _ _ _ => False) e s' → False) : PySem.W.WalkO q loose XP YP l.row.toRowW d [] (fun f vs => PySem.call f vs) := by
  refine Att.attach_callB hn hdf fun w s0 s1 mg mb fa o pm cd doc a vs ns G Y ho hd hcd hmg hobj hi hl hbits hg => ?_
  obtain ⟨K, KX, fd, cs, sp, t1, t2, t3, hb, hsp, hF⟩ := F w mg fa _ Y G.T.g hmg
  exact law_callTs KX G.T.g G.T.b G.T.builtins G.T.nolimit hg t1 t2 t3 G.T.bmain hobj hi (Nat.le_trans hl hn2) hr hF hb (fun H hH hS => hsp H a ns hl hbits hH hS) fun H e s2 => out w H s1 e s2
end Er
set_option Elab.async false
set_option linter.all false
set_option maxRecDepth 100000
set_option maxHeartbeats 4000000
/-! What a text of a yard is due: none, or the number of its wrong line. -/
namespace Er
open PySem PySem.Spec PyProof.Rows L2 LamX
def verdict (k : Str) (ns : List Str) (L : List LW) : Option Int := match vessL k ns with
  | none => some 1
  | some vn => match readA vn L with
    | .inl n => some n
    | .inr _ => none
theorem AnsR.by {K : PySem.W.Frag} {H : Hp} {E : XK} {k : Str} {ns : List Str} {L : List LW} {Q : List Str → RS → Prop} (bad : ∀ n, verdict k ns L = some n → BadA K H E n) (good : ∀ vn z, verdict k ns L = none → vessL k ns = some vn → readA vn L = .inr z → Q vn z) : AnsR K H E k ns L Q := by
  unfold AnsR
  unfold verdict at bad good
  cases e : vessL k ns with
  | none =>
    rw [e] at bad
    exact bad 1 rfl
  | some vn =>
    rw [e] at bad good
    cases e2 : readA vn L with
    | inl n =>
      simp only [e2] at bad ⊢
      exact bad n rfl
    | inr z =>
      simp only [e2] at good ⊢
      exact good vn z trivial rfl e2
theorem spYardI_mono {K : PySem.W.Frag} {vs : List V} {H : Hp} {Q Q' : VK} {E : XK} (f : ∀ v H3, Q v H3 → Q' v H3) (h : spYardI K vs H Q E) : spYardI K vs H Q' E := by
  obtain ⟨y, dx, x, k, ns, L, e, hy, hT, q⟩ := h
  exact ⟨y, dx, x, k, ns, L, e, hy, hT, q.imp fun vn z _ g H' s hY => f _ _ (g H' s hY)⟩
theorem same_ext {H H' : Hp} (s : Same H H') : ExtN H H' := ExtN.of s
def spDue (K : PySem.W.Frag) (P : Addr) (q : Str) : Sp := fun vs H Q _ => ∃ l rows due k ns L, vs = [.ref l, optV due] ∧ SqL K H l (sV rows) ∧ (rows.map (·.length)).sum + rows.length * 1 ≤ 16777216 ∧ TextW (Txt.join "\n" rows) k ns L ∧ verdict k ns L = due ∧ (∀ n : Int, due = some n → n.natAbs.log2 < 1920) ∧
  Tabs [(P, q)] H ∧ ∀ H', ExtN H H' → Tabs [(P, q)] H' → Q (.bl true) H'
end Er
set_option Elab.async false
set_option linter.all false
set_option maxRecDepth 100000
set_option maxHeartbeats 4000000
/-! Names exchanged for others: what a text of a yard is due hangs on which names are alike, not on the names. -/
namespace Er
open PySem PySem.Spec PyProof.Rows L2
def pool : List Str := ["a", "b", "c", "d", "fill", "dye", "pour", "draw", "by", "in", "is", "zzzzzzzz", "vessels"]
def Ph : List Str := ["xa", "xb", "xc"]
def kws : List Str := ["fill", "dye", "draw", "pour"]
def sws : List Str := ["is", "least", "most"]
def ren (a b c w : Str) : Str := if w = "xa" then a else if w = "xb" then b else if w = "xc" then c else w
structure Nm (a b c : Str) : Prop where
  ha : a ∈ pool
  hb : b ∈ pool
  hc : c ∈ pool
  ab : a ≠ b
  ac : a ≠ c
  bc : b ≠ c
def okW (w : Str) : Bool := decide (w ∈ Ph) || !decide (w ∈ pool)
section
variable {a b c : Str}
theorem ren_a : ren a b c "xa" = a := if_pos rfl
theorem ren_b : ren a b c "xb" = b := (if_neg (by decide +kernel)).trans (if_pos rfl)
theorem ren_c : ren a b c "xc" = c := (if_neg (by decide +kernel)).trans ((if_neg (by decide +kernel)).trans (if_pos rfl))
theorem ren_key {w : Str} (h : w ∉ Ph) : ren a b c w = w := by
  unfold Ph at h
  simp only [List.mem_cons, List.not_mem_nil, or_false, not_or] at h
  unfold ren
  rw [if_neg h.1, if_neg h.2.1, if_neg h.2.2]
theorem ph_cases {w : Str} (h : w ∈ Ph) : w = "xa" ∨ w = "xb" ∨ w = "xc" := by
  unfold Ph at h
  simpa only [List.mem_cons, List.not_mem_nil, or_false] using h
theorem ren_pool (N : Nm a b c) {w : Str} (h : w ∈ Ph) : ren a b c w ∈ pool := by
  rcases ph_cases h with rfl | rfl | rfl
  · rw [ren_a]; exact N.ha
  · rw [ren_b]; exact N.hb
  · rw [ren_c]; exact N.hc
theorem okW_out {w : Str} (h : okW w = true) (n : w ∉ Ph) : w ∉ pool := fun z => by
  unfold okW at h
  rw [decide_eq_false n, decide_eq_true z] at h
  cases h
theorem ren_inj (N : Nm a b c) {w v : Str} (hw : okW w = true) (hv : okW v = true) (e : ren a b c w = ren a b c v) : w = v := by
  by_cases h1 : w ∈ Ph
  · by_cases h2 : v ∈ Ph
    · rcases ph_cases h1 with rfl | rfl | rfl <;> rcases ph_cases h2 with rfl | rfl | rfl <;> simp only [ren_a, ren_b, ren_c] at e
      · rfl
      · exact absurd e N.ab
      · exact absurd e N.ac
      · exact absurd e.symm N.ab
      · rfl
      · exact absurd e N.bc
      · exact absurd e.symm N.ac
      · exact absurd e.symm N.bc
      · rfl
    · have z := ren_pool N h1
      rw [e, ren_key h2] at z
      exact absurd z (okW_out hv h2)
  · by_cases h2 : v ∈ Ph
    · have z := ren_pool N h2
      rw [← e, ren_key h1] at z
      exact absurd z (okW_out hw h1)
    · rwa [ren_key h1, ren_key h2] at e
theorem pool_int : ∀ x ∈ pool, intOfS x = none := by decide +kernel
theorem pool_name : ∀ x ∈ pool, isNameS x = true := by decide +kernel
theorem ph_int : ∀ x ∈ Ph, intOfS x = none := by decide +kernel
theorem ph_name : ∀ x ∈ Ph, isNameS x = true := by decide +kernel
theorem pool_ok : ∀ x ∈ pool, PyData.strOk x = true := by decide +kernel
theorem ren_int (N : Nm a b c) (w : Str) : intOfS (ren a b c w) = intOfS w := by
  by_cases h : w ∈ Ph
  · rw [pool_int _ (ren_pool N h), ph_int _ h]
  · rw [ren_key h]
theorem ren_name (N : Nm a b c) (w : Str) : isNameS (ren a b c w) = isNameS w := by
  by_cases h : w ∈ Ph
  · rw [pool_name _ (ren_pool N h), ph_name _ h]
  · rw [ren_key h]
theorem mem_ren (N : Nm a b c) {w : Str} {vn : List Str} (hw : okW w = true) (hv : ∀ v ∈ vn, okW v = true) : decide (ren a b c w ∈ vn.map (ren a b c)) = decide (w ∈ vn) := by
  refine decide_eq_decide.mpr ⟨fun h => ?_, fun h => List.mem_map_of_mem h⟩
  obtain ⟨v, h1, h2⟩ := List.mem_map.mp h
  rw [← ren_inj N (hv v h1) hw h2]
  exact h1
theorem ne_ren (N : Nm a b c) {w v : Str} (hw : okW w = true) (hv : okW v = true) : decide (ren a b c w ≠ ren a b c v) = decide (w ≠ v) :=
  decide_eq_decide.mpr ⟨fun h e => h (congrArg _ e), fun h e => h (ren_inj N hw hv e)⟩
theorem idx_ren (N : Nm a b c) {w : Str} (hw : okW w = true) : ∀ {vn : List Str}, (∀ v ∈ vn, okW v = true) → (vn.map (ren a b c)).idxOf (ren a b c w) = vn.idxOf w
  | [], _ => rfl
  | v :: vn, h => by
    rw [List.map_cons, List.idxOf_cons, List.idxOf_cons, idx_ren N hw fun x hx => h x (List.mem_cons_of_mem _ hx)]
    have e : (ren a b c v == ren a b c w) = (v == w) := by
      by_cases z : v = w
      · subst z
        rw [beq_self_eq_true, beq_self_eq_true]
      · rw [beq_eq_false_iff_ne.mpr z, beq_eq_false_iff_ne.mpr fun q => z (ren_inj N (h v (List.mem_cons_self ..)) hw q)]
    rw [e]
theorem map_inj (N : Nm a b c) : ∀ {us vs : List Str}, (∀ v ∈ us, okW v = true) → (∀ v ∈ vs, okW v = true) → us.map (ren a b c) = vs.map (ren a b c) → us = vs
  | [], [], _, _, _ => rfl
  | [], _ :: _, _, _, e => by cases e
  | _ :: _, [], _, _, e => by cases e
  | u :: us, v :: vs, h1, h2, e => by
    obtain ⟨e1, e2⟩ := List.cons.inj e
    rw [ren_inj N (h1 u (List.mem_cons_self ..)) (h2 v (List.mem_cons_self ..)) e1, map_inj N (fun x hx => h1 x (List.mem_cons_of_mem _ hx)) (fun x hx => h2 x (List.mem_cons_of_mem _ hx)) e2]
theorem nodup_ren (N : Nm a b c) : ∀ {ns : List Str}, (∀ v ∈ ns, okW v = true) → ((ns.map (ren a b c)).Nodup ↔ ns.Nodup)
  | [], _ => by simp
  | n :: ns, h => by
    rw [List.map_cons, List.nodup_cons, List.nodup_cons, nodup_ren N fun x hx => h x (List.mem_cons_of_mem _ hx)]
    have e := mem_ren N (h n (List.mem_cons_self ..)) (vn := ns) fun x hx => h x (List.mem_cons_of_mem _ hx)
    rw [decide_eq_decide] at e
    rw [e]
/-! ### lines -/
def goodL (l : LW) : Bool := match l.1 with
  | [] => true
  | k :: ns => !decide (k ∈ Ph) && ((ns.all okW || !decide (k ∈ kws)) && (!decide (k ∈ sws) || match ns with
    | _ :: k2 :: rest => !decide (k2 ∈ Ph) && (rest.all okW || !decide (k2 = ("in" : Str)))
    | _ => true))
def mapL (a b c : Str) (l : LW) : LW := (l.1.map (ren a b c), ren a b c l.2)
def mapT (a b c : Str) (s : StepT) : StepT := (s.1.map (ren a b c), s.2)
def mapS (a b c : Str) : SampT → SampT
  | none => none
  | some (k, o1, mid, o2) => some (ren a b c k, o1, mid.map (ren a b c), o2)
def mapZ (a b c : Str) (z : RS) : RS := (z.1.map (mapT a b c), z.2.1.map (mapS a b c), z.2.2)
def okT (s : StepT) : Prop := ∃ k r, s.1 = k :: r ∧ k ∉ Ph
def okS : SampT → Prop
  | none => True
  | some (k, _, mid, _) => k ∉ Ph ∧ (k ∈ sws → match mid with
    | k2 :: rest => k2 ∉ Ph ∧ (k2 = ("in" : Str) → ∀ v ∈ rest, okW v = true)
    | [] => True)
theorem notPh {w : Str} (h : (!decide (w ∈ Ph)) = true) : w ∉ Ph := fun z => by
  rw [decide_eq_true z] at h
  cases h
theorem stepB_ren (N : Nm a b c) {vn : List Str} (hv : ∀ v ∈ vn, okW v = true) {l : LW} (g : goodL l = true) (o : Option Int) : stepB (vn.map (ren a b c)) o (l.1.map (ren a b c)) = stepB vn o l.1 := by
  obtain ⟨ws, last⟩ := l
  rcases ws with _ | ⟨k, _ | ⟨x, _ | ⟨y, _ | ⟨u, r⟩⟩⟩⟩
  · rfl
  · rfl
  · unfold goodL at g
    simp only [Bool.and_eq_true, Bool.or_eq_true, List.all_cons, List.all_nil, Bool.and_true] at g
    obtain ⟨g1, g2⟩ := g
    have ek := ren_key (a := a) (b := b) (c := c) (notPh g1)
    show ((decide (ren a b c x ∈ vn.map (ren a b c)) && true) && (inO o 1 99 && decide (ren a b c k ∈ (["fill", "dye", "draw"] : List Str)))) = ((decide (x ∈ vn) && true) && (inO o 1 99 && decide (k ∈ (["fill", "dye", "draw"] : List Str))))
    rw [ek]
    rcases g2 with g2 | g2
    · rw [mem_ren N g2 hv]
    · have n : decide (k ∈ (["fill", "dye", "draw"] : List Str)) = false := decide_eq_false fun z => by
        have z2 : k ∈ kws := by
          simp only [List.mem_cons, List.not_mem_nil, or_false] at z
          unfold kws
          simp only [List.mem_cons, List.not_mem_nil, or_false]
          rcases z with z | z | z
          · exact .inl z
          · exact .inr (.inl z)
          · exact .inr (.inr (.inl z))
        rw [decide_eq_true z2] at g2
        cases g2
      rw [n, Bool.and_false, Bool.and_false, Bool.and_false]
  · unfold goodL at g
    simp only [Bool.and_eq_true, Bool.or_eq_true, List.all_cons, List.all_nil, Bool.and_true] at g
    obtain ⟨g1, g2, _⟩ := g
    have ek := ren_key (a := a) (b := b) (c := c) (notPh g1)
    show ((decide (ren a b c x ∈ vn.map (ren a b c)) && (decide (ren a b c y ∈ vn.map (ren a b c)) && true)) && (inO o 1 99 && (decide (ren a b c k = ("pour" : Str)) && decide (ren a b c x ≠ ren a b c y)))) =
      ((decide (x ∈ vn) && (decide (y ∈ vn) && true)) && (inO o 1 99 && (decide (k = ("pour" : Str)) && decide (x ≠ y))))
    rw [ek]
    rcases g2 with ⟨g2, g3⟩ | g2
    · rw [mem_ren N g2 hv, mem_ren N g3 hv, ne_ren N g2 g3]
    · have n : decide (k = ("pour" : Str)) = false := decide_eq_false fun z => by
        have z2 : k ∈ kws := by
          unfold kws
          simp only [List.mem_cons, List.not_mem_nil, or_false]
          exact .inr (.inr (.inr z))
        rw [decide_eq_true z2] at g2
        cases g2
      rw [n, Bool.false_and, Bool.false_and, Bool.and_false, Bool.and_false, Bool.and_false]
  · rfl
theorem moved_ren (N : Nm a b c) {vn : List Str} (hv : ∀ v ∈ vn, okW v = true) {l : LW} (g : goodL l = true) {o : Option Int} (h : stepB vn o l.1 = true) (lv : List Int) (m : Int) : movedL (vn.map (ren a b c)) lv (l.1.map (ren a b c)) m = movedL vn lv l.1 m := by
  obtain ⟨ws, last⟩ := l
  have kf : ren a b c "fill" = "fill" := ren_key (by decide +kernel)
  have kd : ren a b c "dye" = "dye" := ren_key (by decide +kernel)
  have kw : ren a b c "draw" = "draw" := ren_key (by decide +kernel)
  have kp : ren a b c "pour" = "pour" := ren_key (by decide +kernel)
  have hs := (step_cases h).2
  have it : ∀ {x : Str}, x ∈ vn → takeL (vn.map (ren a b c)) lv m (some (ren a b c x)) = takeL vn lv m (some x) := fun {x} hx => by
    show setF _ lv ((vn.map (ren a b c)).idxOf (ren a b c x)) m = setF _ lv (vn.idxOf x) m
    rw [idx_ren N (hv x hx) hv]
  have ib : ∀ {x : Str} (lv2 : List Int), x ∈ vn → bringL (vn.map (ren a b c)) lv2 m (some (ren a b c x)) = bringL vn lv2 m (some x) := fun {x} lv2 hx => by
    show setF _ lv2 ((vn.map (ren a b c)).idxOf (ren a b c x)) m = setF _ lv2 (vn.idxOf x) m
    rw [idx_ren N (hv x hx) hv]
  show bringL _ (takeL _ lv m (takenS (ws.map (ren a b c)))) m (broughtS (ws.map (ren a b c))) = bringL _ (takeL _ lv m (takenS ws)) m (broughtS ws)
  rcases hs with ⟨y, hy, e | e | e⟩ | ⟨y, u, hy, hu, _, e⟩
  · have e2 : ws = [("fill" : Str), y] := e
    subst e2
    rw [show ([("fill" : Str), y].map (ren a b c)) = [("fill" : Str), ren a b c y] by rw [List.map_cons, List.map_cons, kf]; rfl]
    rw [takenS_2, takenS_2, broughtS_2, broughtS_2, if_neg (by decide +kernel), if_neg (by decide +kernel), if_neg (by decide +kernel), if_neg (by decide +kernel)]
    exact ib _ hy
  · have e2 : ws = [("dye" : Str), y] := e
    subst e2
    rw [show ([("dye" : Str), y].map (ren a b c)) = [("dye" : Str), ren a b c y] by rw [List.map_cons, List.map_cons, kd]; rfl]
    rw [takenS_2, takenS_2, broughtS_2, broughtS_2, if_neg (by decide +kernel), if_neg (by decide +kernel), if_neg (by decide +kernel), if_neg (by decide +kernel)]
    exact ib _ hy
  · have e2 : ws = [("draw" : Str), y] := e
    subst e2
    rw [show ([("draw" : Str), y].map (ren a b c)) = [("draw" : Str), ren a b c y] by rw [List.map_cons, List.map_cons, kw]; rfl]
    rw [takenS_2, takenS_2, broughtS_2, broughtS_2, if_pos rfl, if_pos rfl, if_pos rfl, if_pos rfl]
    exact it hy
  · have e2 : ws = [("pour" : Str), y, u] := e
    subst e2
    rw [show ([("pour" : Str), y, u].map (ren a b c)) = [("pour" : Str), ren a b c y, ren a b c u] by rw [List.map_cons, List.map_cons, List.map_cons, kp]; rfl]
    show bringL _ (takeL _ lv m (some (ren a b c y))) m (some (ren a b c u)) = bringL _ (takeL _ lv m (some y)) m (some u)
    rw [it hy, ib _ hu]
theorem draw_ren {st : List StepT} (h : ∀ s ∈ st, okT s) (i : Nat) : isDraw (st.map (mapT a b c)) i = isDraw st i := by
  unfold isDraw
  rw [List.getElem?_map]
  cases e : st[i]? with
  | none => rfl
  | some s =>
    obtain ⟨k, r, h1, h2⟩ := h s (List.mem_of_getElem? e)
    obtain ⟨ws, o⟩ := s
    have h1' : ws = k :: r := h1
    subst h1'
    show decide (ren a b c k = ("draw" : Str)) = decide (k = ("draw" : Str))
    rw [ren_key h2]
theorem drawn_ren {st : List StepT} (h : ∀ s ∈ st, okT s) : drawnTo (st.map (mapT a b c)) (st.map (mapT a b c)).length = drawnTo st st.length := by
  unfold drawnTo
  rw [List.length_map]
  exact List.filter_congr fun i _ => draw_ren h i
theorem next_ren (N : Nm a b c) {vn : List Str} (hv : ∀ v ∈ vn, okW v = true) {st : List StepT} (hs : ∀ s ∈ st, okT s) {l : LW} (g : goodL l = true) (lv : List Int) (o : Option Int) : nextL (vn.map (ren a b c)) (st.map (mapT a b c)) lv (l.1.map (ren a b c)) o = nextL vn st lv l.1 o := by
  unfold nextL
  rw [stepB_ren N hv g, drawn_ren hs, List.length_map]
  have ed : isDrawW (l.1.map (ren a b c)) = isDrawW l.1 := by
    obtain ⟨ws, last⟩ := l
    cases ws with
    | nil => rfl
    | cons k r =>
      unfold goodL at g
      simp only [Bool.and_eq_true] at g
      show decide (ren a b c k = ("draw" : Str)) = decide (k = ("draw" : Str))
      rw [ren_key (notPh g.1)]
  rw [ed]
  by_cases h : stepB vn o l.1 = true
  · rw [if_pos h, if_pos h, moved_ren N hv g h]
  · rw [if_neg h, if_neg h]
theorem sampOf_ren (N : Nm a b c) (l : LW) : sampOf (l.1.map (ren a b c)) (ren a b c l.2) = mapS a b c (sampOf l.1 l.2) := by
  obtain ⟨ws, last⟩ := l
  rcases ws with _ | ⟨k, _ | ⟨n, mid⟩⟩
  · rfl
  · rfl
  · show some (ren a b c k, intOfS (ren a b c n), mid.map (ren a b c), intOfS (ren a b c last)) = some (ren a b c k, intOfS n, mid.map (ren a b c), intOfS last)
    rw [ren_int N, ren_int N]
theorem okS_of {l : LW} (g : goodL l = true) : okS (sampOf l.1 l.2) := by
  obtain ⟨ws, last⟩ := l
  rcases ws with _ | ⟨k, _ | ⟨n, _ | ⟨k2, rest⟩⟩⟩
  · exact trivial
  · exact trivial
  · unfold goodL at g
    simp only [Bool.and_eq_true] at g
    exact ⟨notPh g.1, fun _ => trivial⟩
  · unfold goodL at g
    simp only [Bool.and_eq_true] at g
    obtain ⟨g1, _, g34⟩ := g
    refine ⟨notPh g1, fun hk => ?_⟩
    rw [decide_eq_true hk, Bool.not_true, Bool.false_or, Bool.and_eq_true] at g34
    obtain ⟨g3, g4⟩ := g34
    refine ⟨notPh g3, fun e v hv => ?_⟩
    rcases Bool.or_eq_true_iff.mp g4 with g4 | g4
    · exact List.all_eq_true.mp g4 v hv
    · rw [decide_eq_true e] at g4
      cases g4
theorem sampB_ren (N : Nm a b c) {vn : List Str} (hv : ∀ v ∈ vn, okW v = true) (many : Int) {z : SampT} (g : okS z) : sampB (vn.map (ren a b c)) many (mapS a b c z) = sampB vn many z := by
  rcases z with _ | ⟨k, o1, mid, o2⟩
  · rfl
  · obtain ⟨g1, g2⟩ := g
    show (decide (ren a b c k ∈ (["is", "least", "most"] : List Str)) && (inO o1 0 9999 && spotB (vn.map (ren a b c)) many o2 (mid.map (ren a b c)))) = (decide (k ∈ (["is", "least", "most"] : List Str)) && (inO o1 0 9999 && spotB vn many o2 mid))
    rw [ren_key g1]
    by_cases hk : k ∈ sws
    case neg =>
      have n : decide (k ∈ (["is", "least", "most"] : List Str)) = false := decide_eq_false hk
      rw [n, Bool.false_and, Bool.false_and]
    have g2 := g2 hk
    have e : spotB (vn.map (ren a b c)) many o2 (mid.map (ren a b c)) = spotB vn many o2 mid := by
      rcases mid with _ | ⟨k2, _ | ⟨x, _ | ⟨y, r⟩⟩⟩
      · rfl
      · show (decide (ren a b c k2 = ("by" : Str)) && inO o2 0 (many - 1)) = (decide (k2 = ("by" : Str)) && inO o2 0 (many - 1))
        rw [ren_key g2.1]
      · show (decide (ren a b c k2 = ("in" : Str)) && (decide (ren a b c x ∈ vn.map (ren a b c)) && inO o2 1 many)) = (decide (k2 = ("in" : Str)) && (decide (x ∈ vn) && inO o2 1 many))
        rw [ren_key g2.1]
        by_cases q : k2 = ("in" : Str)
        · rw [mem_ren N (g2.2 q x (List.mem_singleton.mpr rfl)) hv]
        · rw [decide_eq_false q, Bool.false_and, Bool.false_and]
      · rfl
    rw [e]
/-- the spot of a right sample -/
def shapeS : SampT → Prop
  | none => True
  | some (k, _, mid, _) => k ∈ sws ∧ (mid = [("by" : Str)] ∨ ∃ x, mid = [("in" : Str), x])
theorem shape_of {vn : List Str} {many : Int} {z : SampT} (h : sampB vn many z = true) : shapeS z := by
  rcases z with _ | ⟨k, o1, mid, o2⟩
  · exact trivial
  · have h2 : (decide (k ∈ (["is", "least", "most"] : List Str)) && (inO o1 0 9999 && spotB vn many o2 mid)) = true := h
    simp only [Bool.and_eq_true] at h2
    have h3 := h2.2.2
    refine ⟨of_decide_eq_true h2.1, ?_⟩
    rcases mid with _ | ⟨k2, _ | ⟨x, _ | ⟨y, r⟩⟩⟩
    · cases h3
    · have h4 : (decide (k2 = ("by" : Str)) && inO o2 0 (many - 1)) = true := h3
      simp only [Bool.and_eq_true, decide_eq_true_eq] at h4
      exact .inl (by rw [h4.1])
    · have h4 : (decide (k2 = ("in" : Str)) && (decide (x ∈ vn) && inO o2 1 many)) = true := h3
      simp only [Bool.and_eq_true, decide_eq_true_eq] at h4
      exact .inr ⟨x, by rw [h4.1]⟩
    · cases h3
theorem mapS_inj (N : Nm a b c) {z z2 : SampT} (g : okS z) (g2 : okS z2) (f : shapeS z) (f2 : shapeS z2) (e : mapS a b c z = mapS a b c z2) : z = z2 := by
  have kb : ren a b c "by" = "by" := ren_key (by decide +kernel)
  have ki : ren a b c "in" = "in" := ren_key (by decide +kernel)
  rcases z with _ | ⟨k, o1, mid, o2⟩
  · rcases z2 with _ | ⟨k', o1', mid', o2'⟩
    · rfl
    · cases e
  · rcases z2 with _ | ⟨k', o1', mid', o2'⟩
    · cases e
    · have e2 := Option.some.inj e
      simp only [Prod.mk.injEq] at e2
      obtain ⟨e3, e4, e5, e6⟩ := e2
      rw [ren_key g.1, ren_key g2.1] at e3
      have e7 : mid = mid' := by
        have gk := g.2 f.1
        have gk2 := g2.2 f2.1
        rcases f.2 with f | ⟨x, f⟩ <;> rcases f2.2 with f2 | ⟨x2, f2⟩
        · rw [f, f2]
        · rw [f, f2] at e5
          cases e5
        · rw [f, f2] at e5
          cases e5
        · subst f f2
          have h1 := gk.2 rfl x (List.mem_singleton.mpr rfl)
          have h2 := gk2.2 rfl x2 (List.mem_singleton.mpr rfl)
          have e8 := (List.cons.inj (List.cons.inj e5).2).1
          rw [ren_inj N h1 h2 e8]
      rw [e3, e4, e7, e6]
theorem memS_ren (N : Nm a b c) {z : SampT} {sa : List SampT} (g : okS z) (f : shapeS z) (h : ∀ y ∈ sa, okS y ∧ shapeS y) : mapS a b c z ∈ sa.map (mapS a b c) ↔ z ∈ sa := by
  refine ⟨fun m => ?_, fun m => List.mem_map_of_mem m⟩
  obtain ⟨y, h1, h2⟩ := List.mem_map.mp m
  rw [← mapS_inj N (h y h1).1 g (h y h1).2 f h2]
  exact h1
def okZ (z : RS) : Prop := (∀ s ∈ z.1, okT s) ∧ ∀ y ∈ z.2.1, okS y ∧ shapeS y
theorem lineR_ren (N : Nm a b c) {vn : List Str} (hv : ∀ v ∈ vn, okW v = true) {z : RS} (hz : okZ z) {l : LW} (g : goodL l = true) : lineR (vn.map (ren a b c)) (mapZ a b c z) (mapL a b c l) = (lineR vn z l).map (mapZ a b c) ∧ ∀ z2, lineR vn z l = some z2 → okZ z2 := by
  obtain ⟨st, sa, lv⟩ := z
  have eN : levelOf (vn.map (ren a b c)) (mapZ a b c (st, sa, lv)) (mapL a b c l) = levelOf vn (st, sa, lv) l := by
    show nextL _ (st.map (mapT a b c)) (lv.getLastD []) (l.1.map (ren a b c)) (intOfS (ren a b c l.2)) = nextL vn st (lv.getLastD []) l.1 (intOfS l.2)
    rw [ren_int N, next_ren N hv hz.1 g]
  have gS := okS_of g
  have eS : sampR (vn.map (ren a b c)) (mapZ a b c (st, sa, lv)) (mapL a b c l) = (sampR vn (st, sa, lv) l).map (mapZ a b c) ∧ ∀ z2, sampR vn (st, sa, lv) l = some z2 → okZ z2 := by
    unfold sampR
    have e0 : sampOf (mapL a b c l).1 (mapL a b c l).2 = mapS a b c (sampOf l.1 l.2) := sampOf_ren N l
    have e1 : (mapZ a b c (st, sa, lv)).2.1 = sa.map (mapS a b c) := rfl
    have e2 : (mapZ a b c (st, sa, lv)).1 = st.map (mapT a b c) := rfl
    rw [e0, e1, e2, List.length_map, List.length_map, sampB_ren N hv _ gS]
    by_cases h : sampB vn (st.length : Nat) (sampOf l.1 l.2) = true ∧ sa.length < 6 ∧ sampOf l.1 l.2 ∉ sa
    · rw [if_pos h, if_pos ⟨h.1, h.2.1, fun m => h.2.2 ((memS_ren N gS (shape_of h.1) hz.2).mp m)⟩]
      refine ⟨?_, fun z2 e => ?_⟩
      · show some _ = some (mapZ a b c (st, sa ++ [sampOf l.1 l.2], lv))
        unfold mapZ
        simp only [List.map_append, List.map_cons, List.map_nil]
      · cases e
        refine ⟨hz.1, fun y hy => ?_⟩
        rcases List.mem_append.mp hy with hy | hy
        · exact hz.2 y hy
        · cases List.mem_singleton.mp hy
          exact ⟨gS, shape_of h.1⟩
    · rw [if_neg h, if_neg fun q => h ⟨q.1, q.2.1, fun m => q.2.2 ((memS_ren N gS (shape_of q.1) hz.2).mpr m)⟩]
      exact ⟨rfl, fun z2 e => by cases e⟩
  unfold lineR
  rw [eN]
  cases e : levelOf vn (st, sa, lv) l with
  | none => exact eS
  | some v =>
    have e1 : ((mapZ a b c (st, sa, lv)).1.length < 14 ∧ (mapZ a b c (st, sa, lv)).2.1 = []) ↔ (st.length < 14 ∧ sa = []) := by
      show ((st.map (mapT a b c)).length < 14 ∧ sa.map (mapS a b c) = []) ↔ _
      rw [List.length_map, List.map_eq_nil_iff]
    by_cases h : st.length < 14 ∧ sa = []
    · show (if _ then _ else _) = Option.map _ (if st.length < 14 ∧ sa = [] then _ else _) ∧ ∀ z2, (if st.length < 14 ∧ sa = [] then _ else _) = some z2 → okZ z2
      rw [if_pos h, if_pos (e1.mpr h)]
      refine ⟨?_, fun z2 q => ?_⟩
      · show some _ = some (mapZ a b c (st ++ [(l.1, intOfS l.2)], sa, lv ++ [v]))
        unfold mapZ mapL
        simp only [List.map_append, List.map_cons, List.map_nil]
        rw [ren_int N]
        rfl
      · cases q
        refine ⟨fun s hs => ?_, hz.2⟩
        rcases List.mem_append.mp hs with hs | hs
        · exact hz.1 s hs
        · cases List.mem_singleton.mp hs
          have ne : l.1 ≠ [] := nextL_ne e
          obtain ⟨ws, last⟩ := l
          cases ws with
          | nil => exact absurd rfl ne
          | cons k r =>
            unfold goodL at g
            simp only [Bool.and_eq_true] at g
            exact ⟨k, r, rfl, notPh g.1⟩
    · show (if _ then _ else _) = Option.map _ (if st.length < 14 ∧ sa = [] then _ else _) ∧ ∀ z2, (if st.length < 14 ∧ sa = [] then _ else _) = some z2 → okZ z2
      rw [if_neg h, if_neg fun q => h (e1.mp q)]
      exact eS
theorem linesR_ren (N : Nm a b c) {vn : List Str} (hv : ∀ v ∈ vn, okW v = true) : ∀ (L : List LW) (n : Nat) (z : RS), okZ z → (∀ l ∈ L, goodL l = true) → linesR (vn.map (ren a b c)) n (L.map (mapL a b c)) (mapZ a b c z) = (match linesR vn n L z with
    | .inl m => .inl m
    | .inr z2 => .inr (mapZ a b c z2))
  | [], n, z, _, _ => rfl
  | l :: L, n, z, hz, g => by
    obtain ⟨e1, e2⟩ := lineR_ren N hv hz (g l (List.mem_cons_self ..))
    rw [List.map_cons, linesR_cons, linesR_cons, e1]
    cases e : lineR vn z l with
    | none => rfl
    | some z2 => exact linesR_ren N hv L (n + 1) z2 (e2 z2 e) fun x hx => g x (List.mem_cons_of_mem _ hx)
theorem vess_ren (N : Nm a b c) {k : Str} {ns : List Str} (hv : ∀ v ∈ ns, okW v = true) : vessL k (ns.map (ren a b c)) = (vessL k ns).map (List.map (ren a b c)) := by
  have ea : (ns.map (ren a b c)).all isNameS = ns.all isNameS := by
    rw [List.all_map]
    exact congrArg (fun f => ns.all f) (funext fun w => ren_name N w)
  unfold vessL
  rw [List.length_map, ea]
  by_cases h : k = ("vessels" : Str) ∧ 1 ≤ ns.length ∧ ns.length ≤ 6 ∧ (ns.all isNameS = true) ∧ ns.Nodup
  · rw [if_pos h, if_pos ⟨h.1, h.2.1, h.2.2.1, h.2.2.2.1, (nodup_ren N hv).mpr h.2.2.2.2⟩]
    rfl
  · rw [if_neg h, if_neg fun q => h ⟨q.1, q.2.1, q.2.2.1, q.2.2.2.1, (nodup_ren N hv).mp q.2.2.2.2⟩]
    rfl
theorem verdict_ren (N : Nm a b c) {k : Str} {ns : List Str} {L : List LW} (hv : ∀ v ∈ ns, okW v = true) (g : ∀ l ∈ L, goodL l = true) : verdict k (ns.map (ren a b c)) (L.map (mapL a b c)) = verdict k ns L := by
  unfold verdict
  rw [vess_ren N hv]
  cases e : vessL k ns with
  | none => rfl
  | some vn =>
    have evn : vn = ns := (vess6 e).1
    subst evn
    have z0 : okZ ([], [], [List.replicate vn.length 0]) := ⟨(fun s hs => nomatch hs), (fun s hs => nomatch hs)⟩
    have q := linesR_ren N hv L 2 _ z0 g
    have e0 : readA (vn.map (ren a b c)) (L.map (mapL a b c)) = linesR (vn.map (ren a b c)) 2 (L.map (mapL a b c)) (mapZ a b c ([], [], [List.replicate vn.length 0])) := by
      unfold readA mapZ
      rw [List.length_map]
      rfl
    show (match readA (vn.map (ren a b c)) (L.map (mapL a b c)) with
      | .inl n => some (n : Int)
      | .inr _ => none) = (match readA vn L with
      | .inl n => some (n : Int)
      | .inr _ => none)
    rw [e0, q]
    show _ = (match linesR vn 2 L ([], [], [List.replicate vn.length 0]) with
      | .inl n => some (n : Int)
      | .inr _ => none)
    cases linesR vn 2 L ([], [], [List.replicate vn.length 0]) <;> rfl
end
end Er
set_option Elab.async false
set_option linter.all false
set_option maxRecDepth 100000
set_option maxHeartbeats 4000000
/-! Texts made of words: their lines and words read back; what they are due. -/
namespace Er
open PySem PySem.Spec PyProof.Rows L2 TL
def Due (rows : List Str) (due : Option Int) : Prop := (rows.map (·.length)).sum + rows.length * 1 ≤ 16777216 ∧ rows.length ≤ 1000 ∧ (∃ k ns L, TextW (Txt.join "\n" rows) k ns L ∧ verdict k ns L = due) ∧ ∀ n : Int, due = some n → n.natAbs.log2 < 1920
/-- a word: at most ten signs, no blank, no line feed -/
def wordB (w : Str) : Bool := decide (w.length ≤ 10) && (!decide (32 ∈ tl w) && (!decide (10 ∈ tl w) && PyData.strOk w))
structure WordP (w : Str) : Prop where
  len : w.length ≤ 10
  nb : 32 ∉ tl w
  nl : 10 ∉ tl w
  ok : PyData.strOk w = true
theorem wordB_ok {w : Str} (h : wordB w = true) : WordP w := by
  unfold wordB at h
  simp only [Bool.and_eq_true, Bool.not_eq_true', decide_eq_true_eq, decide_eq_false_iff_not] at h
  exact ⟨h.1, h.2.1, h.2.2.1, h.2.2.2⟩
theorem pool_word : ∀ x ∈ pool, wordB x = true := by decide +kernel
theorem ren_word {a b c : Str} (N : Nm a b c) {w : Str} (h : WordP w) : WordP (ren a b c w) := by
  by_cases q : w ∈ Ph
  · exact wordB_ok (pool_word _ (ren_pool N q))
  · rwa [ren_key q]
theorem mem_joinL {x : Nat} {S : List Nat} : ∀ {ps : List (List Nat)}, x ∈ joinL S ps → x ∈ S ∨ ∃ p ∈ ps, x ∈ p
  | [], h => by cases h
  | [p], h => .inr ⟨p, List.mem_singleton.mpr rfl, h⟩
  | p :: q :: r, h => by
    have h2 : x ∈ p ++ (S ++ joinL S (q :: r)) := h
    rcases List.mem_append.mp h2 with h | h
    · exact .inr ⟨p, List.mem_cons_self .., h⟩
    · rcases List.mem_append.mp h with h | h
      · exact .inl h
      · rcases mem_joinL h with h | ⟨p2, h3, h4⟩
        · exact .inl h
        · exact .inr ⟨p2, List.mem_cons_of_mem _ h3, h4⟩
theorem join_no {s : Nat} {y : Str} (hs : s ∉ tl y) {ws : List Str} (h : ∀ w ∈ ws, s ∉ tl w) : s ∉ tl (Txt.join y ws) := fun m => by
  rw [join_eq, tl_join] at m
  rcases mem_joinL m with m | ⟨p, h1, h2⟩
  · exact hs m
  · obtain ⟨w, h3, rfl⟩ := List.mem_map.mp h1
    exact h w h3 h2
theorem split_row {ws : List Str} (ne : ws ≠ []) (h : ∀ w ∈ ws, WordP w) : Txt.split (Txt.join " " ws) " " = ws :=
  split_join (y := " ") (s := 32) (S := []) (by decide +kernel) (by decide +kernel) ne fun w hw => (h w hw).nb
theorem split_page {rows : List Str} (ne : rows ≠ []) (h : ∀ r ∈ rows, 10 ∉ tl r) : Txt.split (Txt.join "\n" rows) "\n" = rows :=
  split_join (y := "\n") (s := 10) (S := []) (by decide +kernel) (by decide +kernel) ne h
theorem sum_le {α : Type} (f : α → Nat) (m : Nat) : ∀ (l : List α), (∀ x ∈ l, f x ≤ m) → (l.map f).sum ≤ l.length * m
  | [], _ => by simp
  | x :: l, h => by
    have h1 := h x (List.mem_cons_self ..)
    have h2 := sum_le f m l fun y hy => h y (List.mem_cons_of_mem _ hy)
    rw [List.map_cons, List.sum_cons, List.length_cons, Nat.succ_mul]
    omega
theorem join_len {y : Str} {m : Nat} {ws : List Str} (h : ∀ w ∈ ws, w.length ≤ m) (hy : y.length = 1) : (Txt.join y ws).length ≤ ws.length * m + ws.length := by
  rw [join_eq]
  have h1 := StrLaws.join_length_le y ws
  have h2 := sum_le (fun w : Str => w.length) m ws h
  rw [hy, Nat.mul_one] at h1
  omega
/-- the words of a line -/
def lwOf (ws : List Str) : LW := (ws.dropLast, ws.getLastD "")
theorem lw_app {ws : List Str} (ne : ws ≠ []) : (lwOf ws).1 ++ [(lwOf ws).2] = ws := by
  unfold lwOf
  rw [List.getLastD_eq_getLast?, List.getLast?_eq_some_getLast ne]
  exact List.dropLast_concat_getLast ne
theorem lw_map (a b c : Str) {ws : List Str} (ne : ws ≠ []) : lwOf (ws.map (ren a b c)) = mapL a b c (lwOf ws) := by
  unfold lwOf mapL
  rw [List.map_dropLast, List.getLastD_eq_getLast?, List.getLastD_eq_getLast?, List.getLast?_map, List.getLast?_eq_some_getLast ne]
  rfl
def okRow (ws : List Str) : Bool := !decide (ws = []) && (decide (ws.length ≤ 8) && ws.all wordB)
structure RowP (ws : List Str) : Prop where
  ne : ws ≠ []
  len : ws.length ≤ 8
  w : ∀ x ∈ ws, WordP x
theorem okRow_ok {ws : List Str} (h : okRow ws = true) : RowP ws := by
  unfold okRow at h
  simp only [Bool.and_eq_true, Bool.not_eq_true', decide_eq_true_eq, decide_eq_false_iff_not] at h
  exact ⟨h.1, h.2.1, fun x hx => wordB_ok (List.all_eq_true.mp h.2.2 x hx)⟩
theorem RowP.ren {a b c : Str} (N : Nm a b c) {ws : List Str} (h : RowP ws) : RowP (ws.map (ren a b c)) :=
  ⟨fun e => h.ne (List.map_eq_nil_iff.mp e), by rw [List.length_map]; exact h.len, fun x hx => by
    obtain ⟨y, h1, rfl⟩ := List.mem_map.mp hx
    exact ren_word N (h.w y h1)⟩
theorem RowP.rlen {ws : List Str} (h : RowP ws) : (Txt.join " " ws).length ≤ 88 := by
  have z := join_len (y := " ") (m := 10) (fun w hw => (h.w w hw).len) (by decide +kernel)
  have z2 := h.len
  omega
theorem RowP.line {ws : List Str} (h : RowP ws) : LineW (Txt.join " " ws) (lwOf ws).1 (lwOf ws).2 := by
  have e := lw_app h.ne
  have all : ∀ x ∈ (lwOf ws).1 ++ [(lwOf ws).2], WordP x := fun x hx => h.w x (e ▸ hx)
  refine ⟨by rw [e]; exact split_row h.ne h.w, Nat.le_trans h.rlen (by decide), ?_, ?_, fun x hx => ?_⟩
  · exact Nat.le_trans (all _ (List.mem_append_right _ (List.mem_singleton.mpr rfl))).len (by decide)
  · have z := h.len
    have z2 : (lwOf ws).1.length ≤ ws.length := by
      unfold lwOf
      rw [List.length_dropLast]
      omega
    omega
  · exact Nat.le_trans (all _ (List.mem_append_left _ hx)).len (by decide)
theorem text_of {k : Str} {ns : List Str} {Ws : List (List Str)} (h0 : RowP (k :: ns)) (h : ∀ ws ∈ Ws, RowP ws) (hl : Ws.length ≤ 20) :
    let rows := ((k :: ns) :: Ws).map (Txt.join " ")
    (rows.map (·.length)).sum + rows.length * 1 ≤ 16777216 ∧ rows.length ≤ 1000 ∧ TextW (Txt.join "\n" rows) k ns (Ws.map lwOf) := by
  intro rows
  have hall : ∀ ws ∈ (k :: ns) :: Ws, RowP ws := fun ws hw => by
    rcases List.mem_cons.mp hw with rfl | hw
    · exact h0
    · exact h ws hw
  have hrl : rows.length = Ws.length + 1 := by
    show (((k :: ns) :: Ws).map (Txt.join " ")).length = _
    rw [List.length_map, List.length_cons]
  have r88 : ∀ r ∈ rows, r.length ≤ 88 := fun r hr => by
    obtain ⟨ws, h1, rfl⟩ := List.mem_map.mp hr
    exact (hall ws h1).rlen
  have rnl : ∀ r ∈ rows, 10 ∉ tl r := fun r hr => by
    obtain ⟨ws, h1, rfl⟩ := List.mem_map.mp hr
    exact join_no (by decide +kernel) fun w hw => ((hall ws h1).w w hw).nl
  have rs := sum_le (fun r : Str => r.length) 88 rows r88
  have rj := join_len (y := "\n") (m := 88) r88 (by decide +kernel)
  refine ⟨?_, by omega, Txt.join " " (k :: ns), Ws.map (Txt.join " "), split_page (fun z => nomatch z) rnl, by omega, ?_, split_row h0.ne h0.w, Nat.le_trans h0.rlen (by decide), ?_, fun w hw => ?_, ?_, fun l hl2 => ?_⟩
  · show (rows.map fun r : Str => r.length).sum + rows.length * 1 ≤ 16777216
    omega
  · rw [List.length_map]
    omega
  · have z := h0.len
    rw [List.length_cons] at z
    omega
  · exact Nat.le_trans (h0.w w (List.mem_cons_of_mem _ hw)).len (by decide)
  · clear hl rs rj hrl r88 rnl hall
    induction Ws with
    | nil => exact .nil
    | cons ws Ws ih => exact .cons (h ws (List.mem_cons_self ..)).line (ih fun x hx => h x (List.mem_cons_of_mem _ hx))
  · obtain ⟨ws, h1, rfl⟩ := List.mem_map.mp hl2
    intro v hv
    have e := lw_app (h ws h1).ne
    exact ((h ws h1).w v (e ▸ List.mem_append_left _ hv)).ok
/-- words written with the three stand-ins, and what their text is due -/
def chkW (W : List (List Str)) (due : Option Int) : Bool := match W with
  | (k :: ns) :: Ws => okRow (k :: ns) && (Ws.all okRow && (decide (Ws.length ≤ 20) && (!decide (k ∈ Ph) && (ns.all okW && ((Ws.map lwOf).all goodL && (decide (verdict k ns (Ws.map lwOf) = due) && match due with
    | none => true
    | some n => decide (n.natAbs.log2 < 1920)))))))
  | _ => false
theorem due_of {a b c : Str} (N : Nm a b c) (W : List (List Str)) {rows : List Str} {due : Option Int} (hr : rows = W.map fun ws => Txt.join " " (ws.map (ren a b c))) (hc : chkW W due = true) : Due rows due := by
  subst hr
  rcases W with _ | ⟨_ | ⟨k, ns⟩, Ws⟩
  · cases hc
  · cases hc
  · unfold chkW at hc
    simp only [Bool.and_eq_true, decide_eq_true_eq] at hc
    obtain ⟨h0, h1, h2, h3, h4, h5, h6, h7⟩ := hc
    have p0 := (okRow_ok h0).ren N
    have p1 : ∀ ws ∈ Ws.map (List.map (ren a b c)), RowP ws := fun ws hw => by
      obtain ⟨u, hu, rfl⟩ := List.mem_map.mp hw
      exact (okRow_ok (List.all_eq_true.mp h1 u hu)).ren N
    have p0' : RowP (ren a b c k :: ns.map (ren a b c)) := p0
    obtain ⟨t1, t2, t3⟩ := text_of p0' p1 (by rw [List.length_map]; exact h2)
    have eR : (((k :: ns) :: Ws).map fun ws => Txt.join " " (ws.map (ren a b c))) = ((ren a b c k :: ns.map (ren a b c)) :: Ws.map (List.map (ren a b c))).map (Txt.join " ") := by
      show Txt.join " " ((k :: ns).map (ren a b c)) :: Ws.map (fun ws => Txt.join " " (ws.map (ren a b c))) = Txt.join " " (ren a b c k :: ns.map (ren a b c)) :: (Ws.map (List.map (ren a b c))).map (Txt.join " ")
      rw [List.map_map]
      rfl
    rw [eR]
    refine ⟨t1, t2, ⟨_, _, _, t3, ?_⟩, fun n hn => ?_⟩
    · have eL : (Ws.map (List.map (ren a b c))).map lwOf = (Ws.map lwOf).map (mapL a b c) := by
        rw [List.map_map, List.map_map]
        refine List.map_congr_left fun ws hw => ?_
        exact lw_map a b c (okRow_ok (List.all_eq_true.mp h1 ws hw)).ne
      rw [eL, ren_key (notPh h3), verdict_ren N (fun v hv => List.all_eq_true.mp h4 v hv) (fun l hl => List.all_eq_true.mp h5 l hl)]
      exact h6
    · subst hn
      exact of_decide_eq_true h7
/-- the line of the vessels alone -/
theorem due_names {ns : List Str} (hw : ∀ x ∈ ns, x ∈ pool) (hl : ns.length ≤ 7) {due : Option Int} (hv : verdict "vessels" ns [] = due) (hn : ∀ n : Int, due = some n → n.natAbs.log2 < 1920) : Due [Txt.join " " ("vessels" :: ns)] due := by
  have p0 : RowP (("vessels" : Str) :: ns) := ⟨fun z => (nomatch z), by rw [List.length_cons]; omega, fun x hx => by
    rcases List.mem_cons.mp hx with rfl | hx
    · exact wordB_ok (by decide +kernel)
    · exact wordB_ok (pool_word x (hw x hx))⟩
  obtain ⟨t1, t2, t3⟩ := text_of (Ws := []) p0 (fun ws h => nomatch h) (by decide)
  exact ⟨t1, t2, ⟨_, _, _, t3, hv⟩, hn⟩
end Er
set_option Elab.async false
set_option linter.all false
set_option maxRecDepth 100000
set_option maxHeartbeats 4000000
/-! Expressions of texts and lists of texts, and what they come to: nothing that was there changes. -/
namespace Er
open PySem PySem.Spec PyProof.Rows L2
abbrev Case := List Str × Option Int
abbrev Ctx := List (Addr × List Str)
def okh (ps : List Addr) (H : Hp) : Prop := ∀ q ∈ ps, H q ≠ none
def Gc (ctx : Ctx) (H : Hp) : Prop := ∀ q ∈ ctx, H q.1 = some (.lst (sV q.2))
theorem hid_mono {H H' : Hp} {ps : List Addr} (s : Same H H') : Same (hid H ps) (hid H' ps) := fun b o e => by
  obtain ⟨h1, h2⟩ := hid_some e
  rw [hid_ne h1]
  exact s b o h2
theorem hid_le' {H : Hp} {ps : List Addr} : Same (hid H ps) H := fun b o e => (hid_some e).2
theorem hid_tail {H : Hp} {q : Addr} {ps : List Addr} : Same (hid H (q :: ps)) (hid H ps) := fun b o e => by
  obtain ⟨h1, h2⟩ := hid_some e
  rw [hid_ne fun z => h1 (List.mem_cons_of_mem _ z)]
  exact h2
theorem hid_at {H : Hp} {ps : List Addr} {q : Addr} {o : HO} (hk : okh ps H) (n : H q = none) : hid (upd H q o) ps q = some o := by
  rw [hid_ne fun z => hk q z n, upd_same]
theorem hid_put {H : Hp} {ps : List Addr} {q : Addr} {o : HO} (h : q ∈ ps) : hid (upd H q o) ps = hid H ps := by
  funext b
  by_cases e : b ∈ ps
  · rw [hid_in e, hid_in e]
  · rw [hid_ne e, hid_ne e, upd_ne fun z => e (by rw [z]; exact h)]
theorem hid_push {H : Hp} {ps : List Addr} {q : Addr} {o : HO} (n : H q = none) : Same (hid H ps) (hid (upd H q o) (q :: ps)) := fun b u e => by
  obtain ⟨h1, h2⟩ := hid_some e
  have ne : b ≠ q := ne_of_none h2 n
  rw [hid_ne fun z => (List.mem_cons.mp z).elim ne h1, upd_ne ne]
  exact h2
theorem hid_hid {H : Hp} {ps : List Addr} {l : Addr} : hid (hid H ps) [l] = hid H (l :: ps) := by
  funext b
  by_cases e : b = l
  · rw [hid_in (List.mem_singleton.mpr e), hid_in (List.mem_cons.mpr (.inl e))]
  · rw [hid_ne fun z => e (List.mem_singleton.mp z)]
    by_cases e2 : b ∈ ps
    · rw [hid_in e2, hid_in (List.mem_cons_of_mem _ e2)]
    · rw [hid_ne e2, hid_ne fun z => (List.mem_cons.mp z).elim e e2]
theorem hid_push' {H H' : Hp} {ps : List Addr} {q : Addr} (s : Same H H') (n : H q = none) : Same (hid H ps) (hid H' (q :: ps)) := fun b u e => by
  obtain ⟨h1, h2⟩ := hid_some e
  have ne : b ≠ q := ne_of_none h2 n
  rw [hid_ne fun z => (List.mem_cons.mp z).elim ne h1]
  exact s _ _ h2
theorem okh_nil {H : Hp} : okh [] H := fun q hq => by cases hq
theorem gc_nil {H : Hp} : Gc [] H := fun q hq => by cases hq
theorem gc_cons {ctx : Ctx} {H : Hp} {l : Addr} {xs : List Str} (e : H l = some (.lst (sV xs))) (h : Gc ctx H) : Gc ((l, xs) :: ctx) H := fun q hq => by
  rcases List.mem_cons.mp hq with rfl | hq
  · exact e
  · exact h q hq
theorem okh_same {H H' : Hp} {ps : List Addr} (s : Same H H') (h : okh ps H) : okh ps H' := fun q hq => by
  cases e : H q with
  | none => exact absurd e (h q hq)
  | some o => rw [s q o e]; exact fun z => nomatch z
theorem okh_put {H : Hp} {ps : List Addr} {q : Addr} {o : HO} (h : okh ps H) : okh ps (upd H q o) := fun b hb => by
  by_cases e : b = q
  · rw [e, upd_same]
    exact fun z => nomatch z
  · rw [upd_ne e]
    exact h b hb
theorem okh_cons {H : Hp} {ps : List Addr} {q : Addr} (h : okh ps H) (n : H q ≠ none) : okh (q :: ps) H := fun b hb => (List.mem_cons.mp hb).elim (fun e => e ▸ n) (h b)
theorem Gc.same {ctx : Ctx} {H H' : Hp} (s : Same H H') (h : Gc ctx H) : Gc ctx H' := fun q hq => s _ _ (h q hq)
/-! what a value is -/
def RX (n : Nat) (x : Str) : Hp → V → Prop := fun _ v => v = .str x ∧ x.length ≤ n
def RL (xs : List Str) : Hp → V → Prop := fun H v => ∃ l, v = .ref l ∧ H l = some (.lst (sV xs))
def RT (K : PySem.W.Frag) (c : Case) : Hp → V → Prop := fun H v => ∃ p l, v = .ref p ∧ H p = some (.tup [.ref l, optV c.2]) ∧ H l = some (.lst (sV c.1))
def RTs (K : PySem.W.Frag) (H : Hp) (vs : List V) (cs : List Case) : Prop := Paired (fun v c => RT K c H v) vs cs
def RC (K : PySem.W.Frag) (cs : List Case) : Hp → V → Prop := fun H v => ∃ l vs, v = .ref l ∧ H l = some (.lst vs) ∧ RTs K (hid H [l]) vs cs
section
variable {K : PySem.W.Frag} {H H' : Hp}
theorem RT.same {c : Case} {v : V} (s : Same H H') (h : RT K c H v) : RT K c H' v := let ⟨p, l, e, h1, h2⟩ := h; ⟨p, l, e, s _ _ h1, s _ _ h2⟩
theorem RTs.same (s : Same H H') : ∀ {vs : List V} {cs : List Case}, RTs K H vs cs → RTs K H' vs cs
  | _, _, .nil => .nil
  | _, _, .cons h t => .cons (h.same s) (RTs.same s t)
theorem RTs.app {us : List V} {ds : List Case} (q : RTs K H us ds) : ∀ {vs : List V} {cs : List Case}, RTs K H vs cs → RTs K H (vs ++ us) (cs ++ ds)
  | _, _, .nil => q
  | _, _, .cons h t => .cons h (RTs.app q t)
theorem RTs.len : ∀ {vs : List V} {cs : List Case}, RTs K H vs cs → vs.length = cs.length
  | _, _, .nil => rfl
  | _, _, .cons _ t => congrArg (· + 1) (RTs.len t)
end
/-! what an expression comes to -/
def Ev (ctx : Ctx) (ps : List Addr) (t : TE) (σ : L2.St) (R : Hp → V → Prop) : Prop := ∀ (H : Hp) (Q : VK), okh ps H → Gc ctx (hid H ps) → (∀ v H', Same H H' → R (hid H' ps) v → Q v H') → t σ H Q
def EvS (ctx : Ctx) (ps : List Addr) (t : TA) (σ : L2.St) (xs : List Str) : Prop := ∀ (H : Hp) (Q : List V → Hp → Prop), okh ps H → Gc ctx (hid H ps) → (∀ H', Same H H' → Q (sV xs) H') → t σ H Q
def EvT (K : PySem.W.Frag) (ctx : Ctx) (ps : List Addr) (t : TA) (σ : L2.St) (cs : List Case) : Prop := ∀ (H : Hp) (Q : List V → Hp → Prop), okh ps H → Gc ctx (hid H ps) → (∀ vs H', Same H H' → RTs K (hid H' ps) vs cs → Q vs H') → t σ H Q
section
variable {K : PySem.W.Frag} {ctx : Ctx} {ps : List Addr} {σ : L2.St} {t u : TE} {ta : TA}
theorem ev_s {x : Str} (n : Nat) (h : decide (x.length ≤ n) = true := by decide +kernel) : Ev ctx ps (tC (.str x)) σ (RX n x) := fun H Q _ _ k => k _ H (Same.refl _) ⟨rfl, of_decide_eq_true h⟩
theorem ev_v {i : Nat} {x : Str} (e : σ[i]? = some (some (.str x))) (h : x.length ≤ 10) : Ev ctx ps (tVar i) σ (RX 10 x) := fun H Q _ _ k => ⟨_, e, k _ H (Same.refl _) ⟨rfl, h⟩⟩
theorem ev_cat {x y : Str} {n m : Nat} (h1 : Ev ctx ps t σ (RX n x)) (h2 : Ev ctx ps u σ (RX m y)) (hz : n + m ≤ 1000 := by decide) :
    Ev ctx ps (tOp (fun x y H Q => ∃ i j, x = .str i ∧ y = .str j ∧ i.length + j.length ≤ sizeLine ∧ Q (.str (i ++ j)) H) t u) σ (RX (n + m) (x ++ y)) := fun H Q hk hg k =>
  h1 H _ hk hg fun v H1 s1 ⟨e1, b1⟩ => h2 H1 _ (okh_same s1 hk) (hg.same (hid_mono s1)) fun w H2 s2 ⟨e2, b2⟩ => ⟨x, y, e1, e2, Nat.le_trans (by omega : x.length + y.length ≤ 1000) (by decide), k _ H2 (s1.trans s2) ⟨rfl, by
    have z : (x ++ y).length = x.length + y.length := by
      rw [TL.len_tl, TL.tl_append, List.length_append, ← TL.len_tl, ← TL.len_tl]
    rw [z]
    exact Nat.add_le_add b1 b2⟩⟩
theorem ev_lv {i : Nat} {l : Addr} {xs : List Str} (e : σ[i]? = some (some (.ref l))) (m : (l, xs) ∈ ctx) : Ev ctx ps (tVar i) σ (RL xs) := fun H Q _ hg k => ⟨_, e, k _ H (Same.refl _) ⟨l, rfl, hg _ m⟩⟩
theorem evs_nil : EvS ctx ps tNil σ [] := fun H Q _ _ k => k H (Same.refl _)
theorem evs_cons {x : Str} {xs : List Str} {n : Nat} (h1 : Ev ctx ps t σ (RX n x)) (h2 : EvS ctx ps ta σ xs) : EvS ctx ps (tCons t ta) σ (x :: xs) := fun H Q hk hg k =>
  h1 H _ hk hg fun v H1 s1 ⟨e1, _⟩ => h2 H1 _ (okh_same s1 hk) (hg.same (hid_mono s1)) fun H2 s2 => by
    subst e1
    exact k H2 (s1.trans s2)
theorem ev_lst {xs : List Str} (h : EvS ctx ps ta σ xs) (hz : xs.length ≤ 1000 := by exact Nat.le_of_ble_eq_true rfl) : Ev ctx ps (tLst ta) σ (RL xs) := fun H Q hk hg k => i_lst (h H _ hk hg fun H1 s1 => ⟨by rw [sV_len]; exact Nat.le_of_lt (small1000 hz), fun p np => k _ _ (s1.trans (same_new np)) ⟨p, rfl, hid_at (okh_same s1 hk) np⟩⟩)
theorem none_back {H H' : Hp} {l : Addr} (s : Same H H') (n : H' l = none) : H l = none := by
  cases e : H l with
  | none => rfl
  | some o =>
    rw [s _ _ e] at n
    cases n
theorem ev_lstF {xs : List Str} (h : EvS ctx ps ta σ xs) (hz : xs.length ≤ 1000 := by exact Nat.le_of_ble_eq_true rfl) : ∀ (H : Hp) (Q : VK), okh ps H → Gc ctx (hid H ps) → (∀ l H', Same H H' → H l = none → hid H' ps l = some (.lst (sV xs)) → Q (.ref l) H') → tLst ta σ H Q := fun H Q hk hg k =>
  i_lst (h H _ hk hg fun H1 s1 => ⟨by rw [sV_len]; exact Nat.le_of_lt (small1000 hz), fun p np => k _ _ (s1.trans (same_new np)) (none_back s1 np) (hid_at (okh_same s1 hk) np)⟩)
theorem ev_lcat {xs ys : List Str} (h1 : Ev ctx ps t σ (RL xs)) (h2 : Ev ctx ps u σ (RL ys)) (hz : xs.length + ys.length ≤ 1000 := by exact Nat.le_of_ble_eq_true rfl) : Ev ctx ps (tOp rCat t u) σ (RL (xs ++ ys)) := fun H Q hk hg k =>
  h1 H _ hk hg fun v H1 s1 ⟨l, e1, f1⟩ => h2 H1 _ (okh_same s1 hk) (hg.same (hid_mono s1)) fun w H2 s2 ⟨m, e2, f2⟩ => ⟨l, m, sV xs, sV ys, e1, e2, hid_le' _ _ (hid_mono s2 _ _ f1), hid_le' _ _ f2, by rw [sV_len, sV_len]; exact Nat.le_of_lt (small1000 hz), fun p np => k _ _ ((s1.trans s2).trans (same_new np)) ⟨p, rfl, by
    rw [hid_at (okh_same (s1.trans s2) hk) np]
    unfold sV
    rw [List.map_append]⟩⟩
theorem sV_rep (n : Nat) (xs : List Str) : (List.replicate n (sV xs)).flatten = sV (List.replicate n xs).flatten := by
  unfold sV
  rw [List.map_flatten, List.map_replicate]
theorem ev_rep {xs : List Str} {n : Nat} (h1 : Ev ctx ps t σ (RL xs)) (hn : n ≤ 100 := by decide) (hz : xs.length ≤ 100 := by exact Nat.le_of_ble_eq_true rfl) : Ev ctx ps (tOp rRep t (tC (.int (n : Int)))) σ (RL (List.replicate n xs).flatten) := fun H Q hk hg k =>
  h1 H _ hk hg fun v H1 s1 ⟨l, e1, f1⟩ => ⟨l, n, sV xs, e1, rfl, hid_le' _ _ f1, by omega, by omega, by
    rw [sV_len, Int.toNat_natCast]
    exact Nat.le_trans (Nat.mul_le_mul hz hn) (by decide), fun p np => k _ _ (s1.trans (same_new np)) ⟨p, rfl, by
    rw [hid_at (okh_same s1 hk) np, Int.toNat_natCast, sV_rep]⟩⟩
theorem cut_to (xs : List Str) (n : Nat) : cutV (sV xs) none (some (n : Int)) = sV (xs.take n) := by
  unfold cutV
  have e : HT.sIx (sV xs).length (sV xs).length (some (n : Int)) = min n (sV xs).length := by
    show (if (n : Int) < 0 then ((n : Int) + (((sV xs).length : Nat) : Int)).toNat else min (n : Int).toNat (sV xs).length) = _
    rw [if_neg (by omega), Int.toNat_natCast]
  rw [e]
  show List.take (min n (sV xs).length - 0) (List.drop 0 (sV xs)) = sV (xs.take n)
  rw [Nat.sub_zero, List.drop_zero]
  unfold sV
  rw [List.length_map, ← List.map_take]
  congr 1
  rw [List.take_eq_take_iff]
  omega
theorem ev_take {xs : List Str} {n : Nat} (h1 : Ev ctx ps t σ (RL xs)) : Ev ctx ps (tSl (rSlL K) t tNoPart (tPart (tC (.int (n : Int))))) σ (RL (xs.take n)) := fun H Q hk hg k =>
  h1 H _ hk hg fun v H1 s1 ⟨l, e1, f1⟩ => ⟨n, rfl, l, sV xs, e1, SqL.of (hid_le' _ _ f1), fun p np => k _ _ (s1.trans (same_new np)) ⟨p, rfl, by rw [hid_at (okh_same s1 hk) np, cut_to]⟩⟩
theorem ev_t2 {xs : List Str} {o : Option Int} {tn : TE} (h1 : Ev ctx ps t σ (RL xs)) (hn : ∀ H Q, Q (optV o) H → tn σ H Q) : Ev ctx ps (tTup (tCons t (tCons tn tNil))) σ (RT K (xs, o)) := fun H Q hk hg k =>
  h1 H _ hk hg fun v H1 s1 ⟨l, e1, f1⟩ => hn _ _ ⟨by show 2 ≤ sizeLine; decide, fun p np => k _ _ (s1.trans (same_new np)) ⟨p, l, rfl, by rw [hid_at (okh_same s1 hk) np, e1], hid_mono (same_new np) _ _ f1⟩⟩
theorem evt_nil : EvT K ctx ps tNil σ [] := fun H Q _ _ k => k [] H (Same.refl _) .nil
theorem evt_cons {c : Case} {cs : List Case} (h1 : Ev ctx ps t σ (RT K c)) (h2 : EvT K ctx ps ta σ cs) : EvT K ctx ps (tCons t ta) σ (c :: cs) := fun H Q hk hg k =>
  h1 H _ hk hg fun v H1 s1 f1 => h2 H1 _ (okh_same s1 hk) (hg.same (hid_mono s1)) fun vs H2 s2 f2 => k (v :: vs) H2 (s1.trans s2) (.cons (f1.same (hid_mono s2)) f2)
theorem ev_lt {cs : List Case} (h : EvT K ctx ps ta σ cs) (hz : cs.length ≤ 1000 := by exact Nat.le_of_ble_eq_true rfl) : Ev ctx ps (tLst ta) σ (RC K cs) := fun H Q hk hg k => i_lst (h H _ hk hg fun vs H1 s1 f => ⟨by rw [f.len]; exact Nat.le_of_lt (small1000 hz), fun p np => k _ _ (s1.trans (same_new np)) ⟨p, vs, rfl, hid_at (okh_same s1 hk) np, by rw [hid_hid]; exact f.same (hid_push np)⟩⟩)
theorem ev_ltF {cs : List Case} (h : EvT K ctx ps ta σ cs) (hz : cs.length ≤ 1000 := by exact Nat.le_of_ble_eq_true rfl) : ∀ (H : Hp) (Q : VK), okh ps H → Gc ctx (hid H ps) → (∀ l vs H', Same H H' → H l = none → hid H' ps l = some (.lst vs) → RTs K (hid H' (l :: ps)) vs cs → Q (.ref l) H') → tLst ta σ H Q := fun H Q hk hg k =>
  i_lst (h H _ hk hg fun vs H1 s1 f => ⟨by rw [f.len]; exact Nat.le_of_lt (small1000 hz), fun p np => k _ _ _ (s1.trans (same_new np)) (none_back s1 np) (hid_at (okh_same s1 hk) np) (f.same (hid_push np))⟩)
/-- [e for x in xs], e a case -/
theorem ev_lcTF {xs : List Str} {f : Str → Case} {m : Nat} (h1 : Ev ctx ps t σ (RL xs)) (wp : ∀ v, wipe ((wipe σ [m]).set m (some v)) [m] = wipe σ [m]) (he : ∀ x ∈ xs, ∀ ps2, Ev ctx ps2 u ((wipe σ [m]).set m (some (.str x))) (RT K (f x))) (hz : xs.length ≤ 1000 := by exact Nat.le_of_ble_eq_true rfl) :
    ∀ (H : Hp) (Q : VK), okh ps H → Gc ctx (hid H ps) → (∀ l vs H', Same H H' → H l = none → hid H' ps l = some (.lst vs) → RTs K (hid H' (l :: ps)) vs (xs.map f) → Q (.ref l) H') → tLc (iList K t) (gName m) tYes u [m] σ H Q := fun H Q hk hg k => by
  refine i_lc (h1 H _ hk hg fun v H1 s1 ⟨l, e1, f1⟩ => ⟨l, e1, ⟨_, SqL.of (hid_le' _ _ f1)⟩, fun Dl nD => ?_⟩)
  have hk1 := okh_same s1 hk
  have hg1 := hg.same (hid_mono (ps := ps) s1)
  have push := hid_push (ps := ps) (o := .lst []) nD
  refine lr_it (walk_list (K := K) (a := l) (xs := sV xs)) (fun i H2 => Same H1 H2 ∧ okh (Dl :: ps) H2 ∧ Same (hid (upd H1 Dl (.lst [])) (Dl :: ps)) (hid H2 (Dl :: ps)) ∧ ∃ acc, H2 Dl = some (.lst acc) ∧ RTs K (hid H2 (Dl :: ps)) acc ((xs.take i).map f)) ?_ (fun i H2 _ hP => SqL.of (hP.1 _ _ (hid_le' _ _ f1))) (fun i w H2 H3 hi hP hy => ?_) (fun H2 hP => ?_)
  · exact ⟨same_new nD, okh_cons (okh_put hk1) (by rw [upd_same]; exact fun z => nomatch z), Same.refl _, [], upd_same, .nil⟩
  · obtain ⟨s2, k2, g2, acc, eD, fA⟩ := hP
    obtain ⟨rfl, hw⟩ := hy
    rw [sV_len] at hi
    have ew : w = .str xs[i] := by
      have z := sV_at (List.getElem?_eq_getElem hi)
      exact Option.some.inj (hw.symm.trans z)
    subst ew
    refine ⟨wp _, i_yes (iteT (he _ (List.getElem_mem hi) (Dl :: ps) H3 _ k2 (hg1.same (push.trans g2)) fun y H4 s4 fy => ?_))⟩
    have eD4 := s4 _ _ eD
    have la : acc.length = i := by
      rw [fA.len, List.length_map, List.length_take]
      omega
    refine ⟨acc, eD4, small1000 (by omega), ?_, okh_put (okh_same s4 k2), ?_, acc ++ [y], upd_same, ?_⟩
    · exact same_mut (s2.trans s4) nD
    · rw [show hid (upd H4 Dl _) (Dl :: ps) = hid H4 (Dl :: ps) from hid_put (List.mem_cons_self ..)]
      exact g2.trans (hid_mono s4)
    · rw [hid_put (List.mem_cons_self ..)]
      have e : (xs.take (i + 1)).map f = (xs.take i).map f ++ [f xs[i]] := by
        rw [List.take_add_one, List.getElem?_eq_getElem hi, List.map_append]
        rfl
      rw [e]
      exact RTs.app (.cons fy .nil) (fA.same (hid_mono s4))
  · obtain ⟨s2, k2, g2, acc, eD, fA⟩ := hP
    rw [sV_len, List.take_length] at fA
    have nps : Dl ∉ ps := fun z => hk1 _ z nD
    exact k _ _ H2 (s1.trans s2) (none_back s1 nD) (by rw [hid_ne nps]; exact eD) fA
theorem ev_lcT {xs : List Str} {f : Str → Case} {m : Nat} (h1 : Ev ctx ps t σ (RL xs)) (wp : ∀ v, wipe ((wipe σ [m]).set m (some v)) [m] = wipe σ [m]) (he : ∀ x ∈ xs, ∀ ps2, Ev ctx ps2 u ((wipe σ [m]).set m (some (.str x))) (RT K (f x))) (hz : xs.length ≤ 1000 := by exact Nat.le_of_ble_eq_true rfl) :
    Ev ctx ps (tLc (iList K t) (gName m) tYes u [m]) σ (RC K (xs.map f)) := fun H Q hk hg k => ev_lcTF h1 wp he hz H Q hk hg fun l vs H2 s _ e f => k _ H2 s ⟨l, vs, rfl, e, by rw [hid_hid]; exact f⟩
/-- [e for j in range(n)], e a text -/
theorem ev_lcR {n : Nat} {f : Nat → Str} {m b : Nat} (wp : ∀ v, wipe ((wipe σ [m]).set m (some v)) [m] = wipe σ [m]) (he : ∀ j, j < n → ∀ ps2, Ev ctx ps2 u ((wipe σ [m]).set m (some (.int (j : Int)))) (RX b (f j))) (hn : n ≤ 1000) :
    Ev ctx ps (tLc (iRng1 (tCons (tC (.int (n : Int))) tNil)) (gName m) tYes u [m]) σ (RL ((List.range n).map f)) := fun H Q hk hg k => by
  refine i_lc (i_cons (i_c (i_nil ⟨n, rfl, by omega, by omega, fun Dl nD => ?_⟩)))
  have push := hid_push (ps := ps) (o := .lst []) nD
  refine lr_range (n := n) (fun i H2 => Same H H2 ∧ okh (Dl :: ps) H2 ∧ Same (hid (upd H Dl (.lst [])) (Dl :: ps)) (hid H2 (Dl :: ps)) ∧ H2 Dl = some (.lst (sV ((List.range i).map f)))) ?_ (fun i H2 hi hP => ?_) (fun H2 hP => ?_)
  · exact ⟨same_new nD, okh_cons (okh_put hk) (by rw [upd_same]; exact fun z => nomatch z), Same.refl _, upd_same⟩
  · obtain ⟨s2, k2, g2, eD⟩ := hP
    have ei : (0 : Int) + (i : Int) = ((i : Nat) : Int) := Int.zero_add _
    rw [ei]
    refine ⟨wp _, i_yes (iteT (he i hi (Dl :: ps) H2 _ k2 (hg.same (push.trans g2)) fun y H4 s4 ⟨ey, _⟩ => ?_))⟩
    subst ey
    have eD4 := s4 _ _ eD
    refine ⟨_, eD4, ?_, same_mut (s2.trans s4) nD, okh_put (okh_same s4 k2), ?_, ?_⟩
    · rw [sV_len, List.length_map, List.length_range]
      exact small1000 (by omega)
    · rw [show hid (upd H4 Dl _) (Dl :: ps) = hid H4 (Dl :: ps) from hid_put (List.mem_cons_self ..)]
      exact g2.trans (hid_mono s4)
    · rw [upd_same, sV_snoc, List.range_succ, List.map_append]
      rfl
  · obtain ⟨s2, k2, g2, eD⟩ := hP
    have nps : Dl ∉ ps := fun z => hk _ z nD
    exact k _ H2 s2 ⟨Dl, rfl, by rw [hid_ne nps]; exact eD⟩
/-- two lists apart by what they hold -/
theorem apart_len {H : Hp} {l m : Addr} {xs ys : List Str} (h1 : H l = some (.lst (sV xs))) (h2 : H m = some (.lst (sV ys))) (n : xs.length ≠ ys.length) : l ≠ m := fun z => by
  subst z
  rw [h1] at h2
  have e : sV xs = sV ys := by
    injection Option.some.inj h2
  exact n (by rw [← sV_len xs, e, sV_len])
theorem apart_rows {H H2 : Hp} {l m : Addr} {xs : List Str} {vs : List V} {cs : List Case} (h1 : H l = some (.lst (sV xs))) (h2 : H m = some (.lst vs)) (t : RTs K H2 vs cs) (ne : xs ≠ []) : l ≠ m := fun z => by
  subst z
  rw [h1] at h2
  have e : sV xs = vs := by
    injection Option.some.inj h2
  subst e
  cases xs with
  | nil => exact ne rfl
  | cons x xs =>
    cases t with
    | cons a _ =>
      obtain ⟨p, l, e, _⟩ := a
      cases e
theorem hid_get {H : Hp} {ps : List Addr} {b : Addr} {o : HO} (n : b ∉ ps) (e : H b = some o) : hid H ps b = some o := by
  rw [hid_ne n]
  exact e
end
end Er
set_option Elab.async false
set_option linter.all false
set_option maxRecDepth 100000
set_option maxHeartbeats 4000000
/-! A law's own yard: a dict of vessels, steps and samples; its levels, as dicts by name. -/
namespace Er
open PySem PySem.Spec PyProof.Rows L2
theorem idx_ne {a b : Str} {l : List Str} (e : ¬ b = a) : (b :: l).idxOf a = l.idxOf a + 1 := by
  rw [List.idxOf_cons, show (b == a) = false from beq_eq_false_iff_ne.mpr e]
  rfl
def kvL : List Str → List Int → List (Key × V)
  | a :: vn, n :: lv => (.inr a, .int n) :: kvL vn lv
  | _, _ => []
theorem kv_any {a : Str} : ∀ {vn : List Str} {lv : List Int}, lv.length = vn.length → ((kvL vn lv).any fun kv => decide (kv.1 = (.inr a : Key))) = decide (a ∈ vn)
  | [], _, _ => by simp [kvL]
  | b :: vn, n :: lv, h => by
    have ih := kv_any (a := a) (vn := vn) (lv := lv) (by simpa using h)
    show (decide ((Sum.inr b : Key) = .inr a) || (kvL vn lv).any _) = _
    rw [ih]
    by_cases e : b = a
    · subst e
      simp
    · rw [decide_eq_false (show ¬ (Sum.inr b : Key) = .inr a from fun z => e (Sum.inr.inj z)), Bool.false_or]
      simp [Ne.symm e]
theorem kv_get {a : Str} : ∀ {vn : List Str} {lv : List Int}, lv.length = vn.length → a ∈ vn → valV (kvL vn lv) (.inr a : Key) = some (.int (lv.getD (vn.idxOf a) 0))
  | b :: vn, n :: lv, h, m => by
    unfold valV
    show Option.map _ (List.find? _ ((.inr b, .int n) :: kvL vn lv)) = _
    by_cases e : b = a
    · subst e
      rw [List.find?_cons_of_pos (by simp), List.idxOf_cons_self]
      rfl
    · have ih := kv_get (a := a) (vn := vn) (lv := lv) (by simpa using h) ((List.mem_cons.mp m).resolve_left fun z => e z.symm)
      unfold valV at ih
      rw [List.find?_cons_of_neg (by simpa using e), ih, idx_ne e]
      rfl
theorem kv_out {a : Str} {v : V} : ∀ {vn : List Str} {lv : List Int}, a ∉ vn → (kvL vn lv).map (fun kv => if kv.1 = (.inr a : Key) then (kv.1, v) else kv) = kvL vn lv
  | [], _, _ => by simp [kvL]
  | b :: vn, [], _ => by simp [kvL]
  | b :: vn, n :: lv, m => by
    have ne : ¬ (Sum.inr b : Key) = .inr a := fun z => m (by rw [Sum.inr.inj z]; exact List.mem_cons_self ..)
    show (if _ then _ else _) :: (kvL vn lv).map _ = _
    rw [if_neg ne, kv_out fun z => m (List.mem_cons_of_mem _ z)]
    rfl
theorem kv_set {a : Str} {x : Int} : ∀ {vn : List Str} {lv : List Int}, lv.length = vn.length → vn.Nodup → a ∈ vn → (kvL vn lv).map (fun kv => if kv.1 = (.inr a : Key) then (kv.1, .int x) else kv) = kvL vn (lv.set (vn.idxOf a) x)
  | b :: vn, n :: lv, h, nd, m => by
    obtain ⟨n1, n2⟩ := List.nodup_cons.mp nd
    by_cases e : b = a
    · subst e
      rw [List.idxOf_cons_self]
      show (if _ then _ else _) :: (kvL vn lv).map _ = _
      rw [if_pos rfl, kv_out n1]
      rfl
    · rw [idx_ne e]
      show (if _ then _ else _) :: (kvL vn lv).map _ = _
      rw [if_neg fun z => e (Sum.inr.inj z), kv_set (by simpa using h) n2 ((List.mem_cons.mp m).resolve_left fun z => e z.symm)]
      rfl
theorem kv_put {a : Str} {x : Int} {vn : List Str} {lv : List Int} (h : lv.length = vn.length) (nd : vn.Nodup) (m : a ∈ vn) : putK (kvL vn lv) (.inr a : Key) (.int x) = kvL vn (lv.set (vn.idxOf a) x) := by
  unfold putK
  rw [if_pos (by rw [kv_any h]; exact decide_eq_true m), kv_set h nd m]
theorem kv_len : ∀ {vn : List Str} {lv : List Int}, lv.length = vn.length → (kvL vn lv).length = vn.length
  | [], _, _ => by simp [kvL]
  | b :: vn, n :: lv, h => by
    show (kvL vn lv).length + 1 = vn.length + 1
    rw [kv_len (by simpa using h)]
theorem merge_kv' : ∀ {vn : List Str} {lv : List Int} {acc : List (Key × V)}, vn.Nodup → (∀ kv ∈ acc, ∀ a ∈ vn, kv.1 ≠ (.inr a : Key)) → mergeK acc (kvL vn lv) = acc ++ kvL vn lv
  | [], _, acc, _, _ => by simp [kvL, mergeK]
  | b :: vn, [], acc, _, _ => by simp [kvL, mergeK]
  | b :: vn, n :: lv, acc, nd, h => by
    obtain ⟨n1, n2⟩ := List.nodup_cons.mp nd
    have e : putK acc (.inr b : Key) (.int n) = acc ++ [(.inr b, .int n)] := by
      unfold putK
      rw [if_neg fun z => ?_]
      obtain ⟨kv, hk, e⟩ := List.any_eq_true.mp z
      exact h kv hk b (List.mem_cons_self ..) (of_decide_eq_true e)
    show mergeK (putK acc (.inr b) (.int n)) (kvL vn lv) = _
    rw [e, merge_kv' n2 fun kv hk a ha => ?_]
    · rw [List.append_assoc]
      rfl
    · rcases List.mem_append.mp hk with hk | hk
      · exact h kv hk a (List.mem_cons_of_mem _ ha)
      · rw [List.mem_singleton.mp hk]
        exact fun z => n1 (by rw [Sum.inr.inj z]; exact ha)
theorem merge_kv {vn : List Str} {lv : List Int} (nd : vn.Nodup) : mergeK [] (kvL vn lv) = kvL vn lv := merge_kv' nd (fun _ h => by cases h)
/-! ### the levels -/
def levAt (vn : List Str) (st : List StepT) : List Int := st.foldl (fun lv s => movedL vn lv s.1 (s.2.getD 0)) (List.replicate vn.length 0)
def levsOf (vn : List Str) (st : List StepT) : List (List Int) := (List.range (st.length + 1)).map fun i => levAt vn (st.take i)
theorem levAt_snoc {vn : List Str} {st : List StepT} {s : StepT} : levAt vn (st ++ [s]) = movedL vn (levAt vn st) s.1 (s.2.getD 0) := by
  unfold levAt
  rw [List.foldl_append]
  rfl
theorem levAt_len {vn : List Str} {st : List StepT} : (levAt vn st).length = vn.length := by
  suffices h : ∀ (st : List StepT) (lv : List Int), (st.foldl (fun lv s => movedL vn lv s.1 (s.2.getD 0)) lv).length = lv.length by
    exact (h st _).trans (List.length_replicate ..)
  intro st
  induction st with
  | nil => intro lv; rfl
  | cons s st ih =>
    intro lv
    show (st.foldl _ (movedL vn lv s.1 (s.2.getD 0))).length = _
    rw [ih, movedL_len]
theorem pr_snoc {α β : Type} {R : α → β → Prop} {x : α} {y : β} (h : R x y) : ∀ {xs : List α} {ys : List β}, Paired R xs ys → Paired R (xs ++ [x]) (ys ++ [y])
  | _, _, .nil => .cons h .nil
  | _, _, .cons a b => .cons a (pr_snoc h b)
theorem pr_len {α β : Type} {R : α → β → Prop} : ∀ {xs : List α} {ys : List β}, Paired R xs ys → xs.length = ys.length
  | _, _, .nil => rfl
  | _, _, .cons a b => congrArg (· + 1) (pr_len b)
theorem pr_mono {α β : Type} {R S : α → β → Prop} (f : ∀ x y, R x y → S x y) : ∀ {xs : List α} {ys : List β}, Paired R xs ys → Paired S xs ys
  | _, _, .nil => .nil
  | _, _, .cons a b => .cons (f _ _ a) (pr_mono f b)
theorem pr_at {α β : Type} {R : α → β → Prop} : ∀ {xs : List α} {ys : List β} {i : Nat} {y : β}, Paired R xs ys → ys[i]? = some y → ∃ x, xs[i]? = some x ∧ R x y
  | _, _, i, y, .nil, h => by simp at h
  | _, _, 0, y, .cons a b, h => ⟨_, rfl, by cases h; exact a⟩
  | _, _, i + 1, y, .cons a b, h => pr_at b (i := i) h
theorem at_end {xs : List V} {v : V} (h : xs.getLast? = some v) : atI xs (-1) = some v := by
  obtain ⟨ys, rfl⟩ : ∃ ys, xs = ys ++ [v] := by
    cases xs with
    | nil => cases h
    | cons a l => exact ⟨(a :: l).dropLast, by rw [List.getLast?_eq_getLast (List.cons_ne_nil _ _)] at h; rw [← Option.some.inj h, List.dropLast_concat_getLast]⟩
  exact at_last _ _
/-! ### the yard itself -/
def ownKV (a b c : Addr) : List (Key × V) := [(.inr "vessels", .ref a), (.inr "steps", .ref b), (.inr "samples", .ref c)]
def OwnAt (K : PySem.W.Frag) (H : Hp) (o : Addr) (vn : List Str) (st : List StepT) (sa : List SampT) : Prop := ∃ a b c us ws, H o = some (.dK (ownKV a b c)) ∧ SqL K H a (sV vn) ∧ SqL K H b us ∧ StepsAt K H us st ∧ SqL K H c ws ∧ SampsAt K H ws sa
theorem get_dk {H : Hp} {o : Addr} {kvs : List (Key × V)} {k : Key} {v : V} (h : H o = some (.dK kvs)) (e : valV kvs k = some v) : DGet H o (kV k) (some v) := .inl ⟨kvs, k, .inl h, rfl, e.symm⟩
theorem val_hd {k : Key} {v : V} {l : List (Key × V)} : valV ((k, v) :: l) k = some v := by
  unfold valV
  rw [List.find?_cons_of_pos (by simp)]
  rfl
theorem val_tl {k k' : Key} {v : V} {l : List (Key × V)} (h : k' ≠ k) : valV ((k', v) :: l) k = valV l k := by
  unfold valV
  rw [List.find?_cons_of_neg (by simpa using h)]
theorem own_a (a b c : Addr) : valV (ownKV a b c) (.inr "vessels" : Key) = some (.ref a) := val_hd
theorem own_b (a b c : Addr) : valV (ownKV a b c) (.inr "steps" : Key) = some (.ref b) := (val_tl (show (Sum.inr ("vessels" : Str) : Key) ≠ .inr "steps" by decide +kernel)).trans val_hd
theorem own_c (a b c : Addr) : valV (ownKV a b c) (.inr "samples" : Key) = some (.ref c) := (val_tl (show (Sum.inr ("vessels" : Str) : Key) ≠ .inr "samples" by decide +kernel)).trans ((val_tl (show (Sum.inr ("steps" : Str) : Key) ≠ .inr "samples" by decide +kernel)).trans val_hd)
def spLevels (K : PySem.W.Frag) : Sp := fun vs H Q _ => ∃ o vn st sa, vs = [.ref o] ∧ OwnAt K H o vn st sa ∧ vn.Nodup ∧ (∀ s ∈ st, stepB vn s.2 s.1 = true) ∧ st.length ≤ 1000 ∧ vn.length ≤ 1000 ∧
  ∀ p rs H', Same H H' → H p = none → H' p = some (.lst (rs.map V.ref)) → Paired (fun r lv => H' r = some (.dK (kvL vn lv))) rs (levsOf vn st) → Q (.ref p) H'
end Er
namespace Er
open PySem PySem.Spec PyProof.Rows L2
theorem i_dput {td ty tv : TE} {u : TS} {D : Ends} {σ : L2.St} {H : Hp} (h : tv σ H fun v H1 => td σ H1 fun x H2 => ty σ H2 fun y H3 => ∃ a H4, x = V.ref a ∧ DPut H3 a y v H4 ∧ u D σ H4) : tSeq (sDPut td ty tv) u D σ H := h
theorem i_dputL {td ty tv : TE} {D : Ends} {σ : L2.St} {H : Hp} (h : tv σ H fun v H1 => td σ H1 fun x H2 => ty σ H2 fun y H3 => ∃ a H4, x = V.ref a ∧ DPut H3 a y v H4 ∧ D.nx σ H4) : sDPut td ty tv D σ H := h
theorem kv_zero : ∀ vn : List Str, kvL vn (List.replicate vn.length 0) = vn.map fun a => ((.inr a : Key), V.int 0)
  | [] => rfl
  | a :: vn => by
    show (_, _) :: kvL vn (List.replicate vn.length 0) = _
    rw [kv_zero vn]
    rfl
theorem levs_snoc {vn : List Str} {st : List StepT} {i : Nat} {s : StepT} (h : st[i]? = some s) : (List.range (i + 2)).map (fun j => levAt vn (st.take j)) = (List.range (i + 1)).map (fun j => levAt vn (st.take j)) ++ [movedL vn (levAt vn (st.take i)) s.1 (s.2.getD 0)] := by
  rw [List.range_succ (n := i + 1), List.map_append]
  show _ ++ [levAt vn (st.take (i + 1))] = _
  rw [List.take_add_one, h, show (some s).toList = [s] from rfl, levAt_snoc]
theorem mov_fill {vn : List Str} {lv : List Int} {k a : Str} {n : Int} (h : k ≠ ("draw" : Str)) : movedL vn lv [k, a] n = lv.set (vn.idxOf a) (lv.getD (vn.idxOf a) 0 + n) := by
  unfold movedL
  rw [takenS_2, if_neg h, broughtS_2, if_neg h]
  rfl
theorem mov_draw {vn : List Str} {lv : List Int} {a : Str} {n : Int} : movedL vn lv ["draw", a] n = lv.set (vn.idxOf a) (lv.getD (vn.idxOf a) 0 - n) := by
  unfold movedL
  rw [takenS_2, if_pos rfl, broughtS_2, if_pos rfl]
  rfl
theorem mov_pour {vn : List Str} {lv : List Int} {k a b : Str} {n : Int} : movedL vn lv [k, a, b] n = (lv.set (vn.idxOf a) (lv.getD (vn.idxOf a) 0 - n)).set (vn.idxOf b) ((lv.set (vn.idxOf a) (lv.getD (vn.idxOf a) 0 - n)).getD (vn.idxOf b) 0 + n) := rfl
/-- what a turn of the levels leaves: the new dict told, all that stood as it was -/
theorem lev_end {H0 H1 : Hp} {l : Addr} {rs : List Addr} {vn : List Str} {st : List StepT} {i : Nat} {s : StepT} {pd : Addr} (h : st[i]? = some s) (nl : H0 l = none) (s0 : Same H0 H1) (hl : H1 l = some (.lst (rs.map V.ref)))
    (hp : Paired (fun r lv => H1 r = some (.dK (kvL vn lv))) rs ((List.range (i + 1)).map fun j => levAt vn (st.take j))) (hd : H1 pd = some (.dK (kvL vn (movedL vn (levAt vn (st.take i)) s.1 (s.2.getD 0))))) :
    Same H0 (upd H1 l (.lst (rs.map V.ref ++ [.ref pd]))) ∧ (upd H1 l (.lst (rs.map V.ref ++ [.ref pd]))) l = some (.lst ((rs ++ [pd]).map V.ref)) ∧ Paired (fun r lv => (upd H1 l (.lst (rs.map V.ref ++ [.ref pd]))) r = some (.dK (kvL vn lv))) (rs ++ [pd]) ((List.range (i + 2)).map fun j => levAt vn (st.take j)) := by
  have ne : ∀ r kv, H1 r = some (.dK kv) → r ≠ l := fun r kv e z => by
    rw [z, hl] at e
    cases e
  refine ⟨same_mut s0 nl, by rw [upd_same, List.map_append]; rfl, ?_⟩
  rw [levs_snoc h]
  exact pr_snoc (R := fun (r : Addr) (lv : List Int) => (upd H1 l (.lst (rs.map V.ref ++ [.ref pd]))) r = some (.dK (kvL vn lv))) ((upd_ne (ne _ _ hd)).trans hd) (pr_mono (fun r lv e => (upd_ne (ne _ _ e)).trans e) hp)
/-- a dict of one's own changed: all that stood is as it was -/
theorem put_keep {H0 H1 : Hp} {l pd : Addr} {rs : List Addr} {o : HO} {vn : List Str} {L : List (List Int)} (n0 : H0 pd = none) (s : Same H0 H1) (hl : H0 l = some (.lst (rs.map V.ref))) (hp : Paired (fun r lv => H0 r = some (.dK (kvL vn lv))) rs L) :
    Same H0 (upd H1 pd o) ∧ (upd H1 pd o) l = some (.lst (rs.map V.ref)) ∧ Paired (fun r lv => (upd H1 pd o) r = some (.dK (kvL vn lv))) rs L := by
  have z := same_mut (o := o) s n0
  exact ⟨z, z _ _ hl, pr_mono (fun r lv e => z _ _ e) hp⟩
end Er
set_option Elab.async false
set_option linter.all false
set_option maxRecDepth 100000
set_option maxHeartbeats 4000000
/-! A whole number's word, read by its signs alone: the same as by its value. -/
namespace Er
open PySem PySem.Spec PyProof.Rows L2
def noughtB (w : Str) : Bool := decide ((digsOf w).cps.toList.head? = some 48) && !decide (w = ("0" : Str))
def wholeS (w : Str) : Option Int := if digsOk w = true then (if noughtB w = true then none else intText? w) else none
theorem chr_dig {c : Nat} (h : 48 ≤ c ∧ c ≤ 57) : (Char.ofNat c).toNat = c := by
  obtain ⟨h1, h2⟩ := h
  have : c = 48 ∨ c = 49 ∨ c = 50 ∨ c = 51 ∨ c = 52 ∨ c = 53 ∨ c = 54 ∨ c = 55 ∨ c = 56 ∨ c = 57 := by omega
  rcases this with e | e | e | e | e | e | e | e | e | e <;> subst e <;> decide
theorem map_dig : ∀ {cs : List Nat}, NumText.AllDigits cs → (cs.map Char.ofNat).map Char.toNat = cs
  | [], _ => rfl
  | c :: r, h => by
    show (Char.ofNat c).toNat :: (r.map Char.ofNat).map Char.toNat = c :: r
    rw [chr_dig (h c (List.mem_cons_self ..)), map_dig (fun d hd => h d (List.mem_cons_of_mem _ hd))]
theorem tl_num (n : Nat) : (Str.ofString (toString (n : Int))).cps.toList = (Nat.toDigits 10 n).map Char.toNat := by
  show TL.tl (Str.ofString (toString n)) = _
  rw [Nat.toString_eq_ofList_toDigits, TL.tl_ofString]
  simp
theorem tl_neg {n : Nat} (h : 0 < n) : (Str.ofString (toString (-(n : Int)))).cps.toList = 45 :: (Nat.toDigits 10 n).map Char.toNat := by
  obtain ⟨m, rfl⟩ : ∃ m, n = m + 1 := ⟨n - 1, by omega⟩
  show TL.tl (Str.ofString ("-" ++ (m + 1).repr)) = _
  rw [show (m + 1).repr = String.ofList (Nat.toDigits 10 (m + 1)) from rfl, TL.tl_ofString]
  simp
theorem drop_len {p : Nat → Bool} : ∀ l : List Nat, (l.dropWhile p).length ≤ l.length
  | [] => Nat.le_refl _
  | c :: r => by
    rw [List.dropWhile_cons]
    split
    · exact Nat.le_succ_of_le (drop_len r)
    · exact Nat.le_refl _
theorem canon {c : Nat} {r : List Nat} (h : NumText.AllDigits (c :: r)) (n : c ≠ 48) : (Nat.toDigits 10 (NumText.digitsVal (c :: r))).map Char.toNat = c :: r := by
  rw [NumText.toDigits_all _ h, List.dropWhile_cons, if_neg (by simpa using n)]
  exact map_dig h
theorem noncanon {r : List Nat} (h : NumText.AllDigits (48 :: r)) (hr : r ≠ []) : ((Nat.toDigits 10 (NumText.digitsVal (48 :: r))).map Char.toNat).length < (48 :: r).length := by
  rw [NumText.toDigits_all _ h, List.dropWhile_cons, if_pos (by decide)]
  have z := drop_len (p := fun x => x == 48) r
  have hl : 0 < r.length := List.length_pos_iff.mpr hr
  cases e : r.dropWhile (fun x => x == 48) with
  | nil => simpa using hl
  | cons d l =>
    rw [e] at z
    simp only [List.length_map, List.length_cons] at z ⊢
    omega
theorem whole_eq {w : Str} (hl : w.length ≤ 500) : wholeS w = intOfS w := by
  unfold wholeS intOfS
  by_cases h : digsOk w = true
  · rw [if_pos h, if_pos h]
    obtain ⟨h1, h2⟩ := Bool.and_eq_true_iff.mp h
    have hne : digsOf w ≠ ("" : Str) := fun e => by
      rw [decide_eq_true e] at h1
      cases h1
    have hD := allDig h2
    have hN := ne_empty hne
    have e0 : ("0" : Str).cps.toList = [48] := by decide +kernel
    by_cases g : negB w = true
    · obtain ⟨cs, e⟩ := negB_iff.mp g
      have ed : (digsOf w).cps.toList = cs := by
        unfold digsOf
        rw [if_pos g, cut1, e]
        rfl
      have hw0 : w ≠ ("0" : Str) := fun z => by
        rw [z, e0] at e
        cases e
      rw [ed] at hD hN
      rw [PySem.intText_neg e hD hN (by omega)]
      unfold noughtB
      rw [ed]
      cases cs with
      | nil => exact absurd rfl hN
      | cons c r =>
        by_cases n : c = 48
        · subst n
          rw [if_pos (by simp [hw0])]
          show none = if _ then _ else _
          rw [if_neg fun z => ?_]
          have z2 := congrArg (fun s : Str => s.cps.toList) z
          rw [e] at z2
          by_cases v0 : NumText.digitsVal (48 :: r) = 0
          · rw [v0] at z2
            have z3 : (Str.ofString (toString (-((0 : Nat) : Int)))).cps.toList = [48] := by decide +kernel
            rw [z3] at z2
            cases z2
          · rw [tl_neg (by omega)] at z2
            have z3 := List.cons.inj z2
            by_cases hr : r = []
            · subst hr
              exact v0 (by decide)
            · have z4 := noncanon hD hr
              rw [z3.2] at z4
              exact absurd z4 (Nat.lt_irrefl _)
        · rw [if_neg (by simp [n])]
          show some _ = if _ then _ else _
          have hp : 0 < NumText.digitsVal (c :: r) := NumText.digitsVal_pos (by have := hD c (List.mem_cons_self ..); omega)
          rw [if_pos (TL.ext_tl (by show (Str.ofString _).cps.toList = w.cps.toList; rw [tl_neg hp, canon hD n, e]))]
    · have ed : digsOf w = w := if_neg g
      rw [ed] at hD hN
      rw [PySem.intText_digits hD hN (by omega)]
      unfold noughtB
      rw [ed]
      cases e : w.cps.toList with
      | nil => exact absurd e hN
      | cons c r =>
        rw [e] at hD
        by_cases n : c = 48
        · subst n
          by_cases hr : r = []
          · subst hr
            have ew : w = ("0" : Str) := TL.ext_tl (e.trans e0.symm)
            rw [if_neg (by simp [ew])]
            show some _ = if _ then _ else _
            rw [if_pos (by rw [ew]; decide +kernel)]
          · have hw0 : w ≠ ("0" : Str) := fun z => by
              rw [z, e0] at e
              exact hr (List.cons.inj e).2.symm
            rw [if_pos (by simp [hw0])]
            show none = if _ then _ else _
            rw [if_neg fun z => ?_]
            have z2 := congrArg (fun s : Str => s.cps.toList) z
            rw [e, tl_num] at z2
            have z4 := noncanon hD hr
            rw [z2] at z4
            exact absurd z4 (Nat.lt_irrefl _)
        · rw [if_neg (by simp [n])]
          show some _ = if _ then _ else _
          rw [if_pos (TL.ext_tl (by show (Str.ofString _).cps.toList = w.cps.toList; rw [tl_num, canon hD n, e]))]
  · rw [if_neg h, if_neg h]
end Er
namespace Er
open PySem PySem.Spec PyProof.Rows L2
theorem cut01 (w : Str) : (cutS w none (some 1)).cps.toList = w.cps.toList.take 1 := by
  show List.take (HT.sIx w.length w.length (some 1) - HT.sIx w.length 0 none) (List.drop (HT.sIx w.length 0 none) w.cps.toList) = _
  have e2 : HT.sIx w.length 0 none = 0 := rfl
  have e3 : w.cps.toList.length = w.length := Array.length_toList
  by_cases h : w.length = 0
  · have e4 : w.cps.toList = [] := List.eq_nil_of_length_eq_zero (e3.trans h)
    rw [e4]
    simp
  · have e1 : HT.sIx w.length w.length (some 1) = 1 := by
      simp [HT.sIx]
      omega
    rw [e1, e2]
    rfl
theorem cut_neg {w : Str} : cutS w none (some 1) = ("-" : Str) ↔ negB w = true := by
  have e0 : ("-" : Str).cps.toList = [45] := by decide +kernel
  rw [negB_iff]
  constructor
  · intro h
    have z : (cutS w none (some 1)).cps.toList = [45] := by rw [h, e0]
    rw [cut01] at z
    cases e : w.cps.toList with
    | nil => rw [e] at z; cases z
    | cons c l =>
      rw [e] at z
      exact ⟨l, by rw [(List.cons.inj z).1]⟩
  · rintro ⟨l, e⟩
    refine TL.ext_tl ?_
    show (cutS w none (some 1)).cps.toList = ("-" : Str).cps.toList
    rw [cut01, e, e0]
    rfl
theorem head_sign {w : Str} {c : Nat} (h : w.cps.toList.head? = some c) : atI w.cps.toList 0 = some c := by
  cases e : w.cps.toList with
  | nil => rw [e] at h; cases h
  | cons d l =>
    rw [e] at h
    show ((ixN (d :: l).length 0).bind fun j => (d :: l)[j]?) = some c
    rw [← h]
    simp [ixN]
theorem one_sign {c d : Nat} : ((⟨#[c]⟩ : Str) = ⟨#[d]⟩) ↔ c = d := by
  constructor
  · intro h
    have z := congrArg (fun s : Str => s.cps.toList) h
    exact (List.cons.inj z).1
  · rintro rfl
    rfl
def spNameL : Sp := fun vs H Q _ => ∃ x : Str, vs = [.str x] ∧ x.length ≤ 100000 ∧ ∀ H', Same H H' → Q (.bl (isNameS x)) H'
end Er
set_option Elab.async false
set_option linter.all false
set_option maxRecDepth 100000
set_option maxHeartbeats 4000000
/-! A law's own reading of a step. -/
namespace Er
open PySem PySem.Spec PyProof.Rows L2
theorem or_rest {t u : TT} {σ : L2.St} {H : Hp} {Qb : Bool → Hp → Prop} (c : Bool) (rest : ∀ H3, Same H H3 → Qb c H3) (go : ∀ Qb' : Bool → Hp → Prop, (∀ H3, Same H H3 → Qb' c H3) → tOr t u σ H Qb') : tOr t u σ H Qb := go _ rest
theorem r_neI {H : Hp} {Q : VK} {a b : Int} (q : Q (.bl (decide (a ≠ b))) H) : rNe (.int a) (.int b) H Q := ⟨rfl, by
  have e : (!decide (V.int a = V.int b)) = decide (a ≠ b) := by
    by_cases h : a = b
    · rw [decide_eq_true (congrArg V.int h), decide_eq_false (fun z => z h)]
      rfl
    · rw [decide_eq_true h, decide_eq_false fun z => h (V.int.inj z)]
      rfl
  rw [e]
  exact q⟩
theorem i_tup4 {a b c d : V} {σ : L2.St} {H : Hp} {Q : VK} (h : ∀ p, H p = none → Q (.ref p) (upd H p (.tup [a, b, c, d]))) : tTup (tCons (tC a) (tCons (tC b) (tCons (tC c) (tCons (tC d) tNil)))) σ H Q := ⟨(by show 4 ≤ sizeLine; decide), h⟩
def four : List Str := ["fill", "dye", "pour", "draw"]
def formB : List Str → Bool
  | [k, _] => decide (k ∈ four) && decide (k ≠ ("pour" : Str))
  | [k, _, _] => decide (k = ("pour" : Str))
  | _ => false
theorem pour_four : ("pour" : Str) ∈ four := by decide +kernel
theorem formB_eq {init rest : List Str} {last w0 : Str} (h : init ++ [last] = w0 :: rest) : formB init = (decide (w0 ∈ four) && decide (((sV (init ++ [last])).length : Int) = if w0 = ("pour" : Str) then 4 else 3)) := by
  have e : ((sV (init ++ [last])).length : Int) = (init.length : Int) + 1 := by
    unfold sV
    rw [List.length_map, List.length_append]
    rfl
  rw [e]
  rcases init with _ | ⟨k, _ | ⟨a, _ | ⟨b, _ | ⟨d, l⟩⟩⟩⟩
  · show false = _
    rw [decide_eq_false (show ¬ (((([] : List Str).length : Nat) : Int) + 1 = if w0 = ("pour" : Str) then 4 else 3) by split <;> decide), Bool.and_false]
  · show false = _
    rw [decide_eq_false (show ¬ (((([k] : List Str).length : Nat) : Int) + 1 = if w0 = ("pour" : Str) then 4 else 3) by split <;> simp), Bool.and_false]
  · cases h
    show (decide (w0 ∈ four) && decide (w0 ≠ ("pour" : Str))) = _
    congr 1
    by_cases z : w0 = ("pour" : Str)
    · rw [if_pos z, decide_eq_false (fun y => y z)]
      rfl
    · rw [if_neg z, decide_eq_true z]
      rfl
  · cases h
    show decide (w0 = ("pour" : Str)) = _
    by_cases z : w0 = ("pour" : Str)
    · rw [if_pos z, z, decide_eq_true pour_four]
      rfl
    · rw [if_neg z, decide_eq_false z]
      rw [decide_eq_false (show ¬ (((([w0, a, b] : List Str).length : Nat) : Int) + 1 = 3) by simp), Bool.and_false]
  · show false = _
    rw [decide_eq_false (show ¬ ((((k :: a :: b :: d :: l).length : Nat) : Int) + 1 = if w0 = ("pour" : Str) then 4 else 3) by
      simp only [List.length_cons]
      split <;> omega), Bool.and_false]
theorem form_of {init : List Str} (h : formB init = true) : (∃ k a, init = [k, a] ∧ k ∈ four ∧ k ≠ ("pour" : Str)) ∨ ∃ a b, init = [("pour" : Str), a, b] := by
  rcases init with _ | ⟨k, _ | ⟨a, _ | ⟨b, _ | ⟨d, l⟩⟩⟩⟩
  · cases h
  · cases h
  · obtain ⟨h1, h2⟩ := Bool.and_eq_true_iff.mp (show (decide (k ∈ four) && decide (k ≠ ("pour" : Str))) = true from h)
    exact .inl ⟨k, a, rfl, of_decide_eq_true h1, of_decide_eq_true h2⟩
  · have h1 : k = ("pour" : Str) := of_decide_eq_true h
    subst h1
    exact .inr ⟨a, b, rfl⟩
  · cases h
theorem four_in {k : Str} (h : k ∈ four) (n : k ≠ ("pour" : Str)) : k ∈ (["fill", "dye", "draw"] : List Str) := by
  unfold four at h
  simp only [List.mem_cons, List.not_mem_nil, or_false] at h ⊢
  rcases h with h | h | h | h
  · exact .inl h
  · exact .inr (.inl h)
  · exact absurd h n
  · exact .inr (.inr h)
theorem stepB_form {vn : List Str} {o : Option Int} {init : List Str} (h : stepB vn o init = true) : formB init = true := by
  obtain ⟨_, ⟨a, _, rfl | rfl | rfl⟩ | ⟨a, b, _, _, _, rfl⟩⟩ := step_cases h
  · show (decide (("fill" : Str) ∈ four) && decide (("fill" : Str) ≠ "pour")) = true
    decide +kernel
  · show (decide (("dye" : Str) ∈ four) && decide (("dye" : Str) ≠ "pour")) = true
    decide +kernel
  · show (decide (("draw" : Str) ∈ four) && decide (("draw" : Str) ≠ "pour")) = true
    decide +kernel
  · show decide (("pour" : Str) = "pour") = true
    decide +kernel
def lowOk (vn : List Str) (st : List StepT) (init : List Str) (n : Int) : Bool := match takenS init with
  | some a => decide (n ≤ (levAt vn st).getD (vn.idxOf a) 0)
  | none => true
def deedOk (vn : List Str) (st : List StepT) (sa : List SampT) (init : List Str) (o : Option Int) : Bool :=
  stepB vn o init && (decide (sa = []) && (decide (st.length ≠ 14) && (!(isDrawW init && decide ((vn.length : Int) + ((drawnTo st st.length).length : Int) = 9)) && lowOk vn st init (o.getD 0))))
theorem bad_step {vn : List Str} {st : List StepT} {sa : List SampT} {init : List Str} {o : Option Int} (h : stepB vn o init = false) : deedOk vn st sa init o = false := by
  unfold deedOk
  rw [h, Bool.false_and]
theorem bad_form {vn : List Str} {st : List StepT} {sa : List SampT} {init : List Str} {o : Option Int} (h : formB init = false) : deedOk vn st sa init o = false := bad_step (by
  cases e : stepB vn o init with
  | false => rfl
  | true =>
    rw [stepB_form e] at h
    cases h)
def OptDeed (K : PySem.W.Frag) (H : Hp) (v : V) (init : List Str) (o : Option Int) (c : Bool) : Prop := if c = true then ∃ p, v = .ref p ∧ SqT K H p (wv init o) else v = .non
def spDeedIn (K : PySem.W.Frag) : Sp := fun vs H Q _ => ∃ o w vn st sa init last, vs = [.ref o, .ref w] ∧ OwnAt K H o vn st sa ∧ vn.Nodup ∧ (∀ s ∈ st, stepB vn s.2 s.1 = true) ∧ st.length ≤ 1000 ∧ vn.length ≤ 1000 ∧ SqL K H w (sV (init ++ [last])) ∧ init.length ≤ 1000 ∧ last.length ≤ 500 ∧ (∀ z ∈ sa, SOk z) ∧
  ∀ v H', Same H H' → OptDeed K H' v init (intOfS last) (deedOk vn st sa init (intOfS last)) → Q v H'
end Er
namespace Er
open PySem PySem.Spec PyProof.Rows L2
theorem sV_last (ws : List Str) (l : Str) : sV (ws ++ [l]) = sV ws ++ [V.str l] := by
  unfold sV
  rw [List.map_append]
  rfl
theorem cut_in (a : V) (xs : List V) (l : V) : cutV (a :: (xs ++ [l])) (some 1) (some (-1)) = xs := by
  unfold cutV
  have e : (a :: (xs ++ [l])).length = (xs.length + 1) + 1 := by simp
  rw [e, six_last]
  have e2 : HT.sIx (xs.length + 1 + 1) 0 (some 1) = 1 := by
    show (if (1 : Int) < 0 then (1 + ((xs.length + 1 + 1 : Nat) : Int)).toNat else min 1 (xs.length + 1 + 1)) = 1
    rw [if_neg (by decide)]
    omega
  rw [e2]
  show List.take (xs.length + 1 - 1) (xs ++ [l]) = xs
  rw [Nat.add_sub_cancel, List.take_left]
def sameB (k : Str) : List Str → Bool
  | [a, b] => decide (k = ("pour" : Str)) && decide (a = b)
  | _ => false
theorem stepB_eq {vn : List Str} {o : Option Int} {k : Str} {names : List Str} (h : formB (k :: names) = true) : stepB vn o (k :: names) = ((names.all fun x => decide (x ∈ vn)) && (inO o 1 99 && !sameB k names)) := by
  rcases form_of h with ⟨k, a, e, h1, h2⟩ | ⟨a, b, e⟩
  · cases e
    show (([a].all fun x => decide (x ∈ vn)) && (inO o 1 99 && decide (k ∈ (["fill", "dye", "draw"] : List Str)))) = _
    rw [decide_eq_true (four_in h1 h2)]
    rfl
  · cases e
    show (([a, b].all fun x => decide (x ∈ vn)) && (inO o 1 99 && (decide (("pour" : Str) = ("pour" : Str)) && decide (a ≠ b)))) = _
    rw [show sameB "pour" [a, b] = decide (a = b) by show (decide (("pour" : Str) = "pour") && decide (a = b)) = decide (a = b); rw [decide_eq_true rfl, Bool.true_and], decide_eq_true rfl, Bool.true_and]
    rw [show decide (a ≠ b) = !decide (a = b) from decide_not]
end Er
namespace Er
open PySem PySem.Spec PyProof.Rows L2
theorem OwnAt.same {K : PySem.W.Frag} {H H' : Hp} {o : Addr} {vn : List Str} {st : List StepT} {sa : List SampT} (s : Same H H') (h : OwnAt K H o vn st sa) : OwnAt K H' o vn st sa := by
  obtain ⟨a, b, c, us, ws, hO, hA, hB, hS, hC, hW⟩ := h
  exact ⟨a, b, c, us, ws, s _ _ hO, s.seq hA, s.seq hB, hS.same s, s.seq hC, hW.keep (.of s)⟩
theorem inO_some {o : Option Int} (h : inO o 1 99 = true) : ∃ n : Int, o = some n ∧ 1 ≤ n ∧ n ≤ 99 := by
  cases o with
  | none => cases h
  | some n =>
    obtain ⟨z1, z2⟩ := Bool.and_eq_true_iff.mp (show (decide (1 ≤ n) && decide (n ≤ 99)) = true from h)
    exact ⟨n, rfl, of_decide_eq_true z1, of_decide_eq_true z2⟩
theorem names_of {k : Str} {names : List Str} (h : formB (k :: names) = true) : ∃ a nr, names = a :: nr ∧ (k = ("pour" : Str) → ∃ b, nr = [b]) ∧ (k ≠ ("pour" : Str) → nr = []) := by
  rcases form_of h with ⟨k, a, e, h1, h2⟩ | ⟨a, b, e⟩
  · cases e
    exact ⟨a, [], rfl, fun z => absurd z h2, fun _ => rfl⟩
  · cases e
    exact ⟨a, [b], rfl, fun _ => ⟨b, rfl⟩, fun z => absurd rfl z⟩
theorem low_in {vn : List Str} {st : List StepT} {k a : Str} {nr : List Str} {n : Int} (h : formB (k :: a :: nr) = true) (m : k ∈ (["pour", "draw"] : List Str)) : lowOk vn st (k :: a :: nr) n = decide (n ≤ (levAt vn st).getD (vn.idxOf a) 0) := by
  rcases form_of h with ⟨k', a', e, h1, h2⟩ | ⟨a', b, e⟩
  · cases e
    have z : k = ("draw" : Str) := by
      simp only [List.mem_cons, List.not_mem_nil, or_false] at m
      exact m.resolve_left h2
    subst z
    unfold lowOk
    rw [takenS_2, if_pos rfl]
  · cases e
    rfl
theorem low_out {vn : List Str} {st : List StepT} {k a : Str} {nr : List Str} {n : Int} (h : formB (k :: a :: nr) = true) (m : ¬ k ∈ (["pour", "draw"] : List Str)) : lowOk vn st (k :: a :: nr) n = true := by
  rcases form_of h with ⟨k', a', e, h1, h2⟩ | ⟨a', b, e⟩
  · cases e
    unfold lowOk
    rw [takenS_2, if_neg (fun z => m (by rw [z]; decide +kernel))]
  · cases e
    exact absurd (by decide +kernel) m
theorem isDraw_at {st : List StepT} {i : Nat} {k : Str} {r : List Str} {o : Option Int} (h : st[i]? = some (k :: r, o)) : isDraw st i = decide (k = ("draw" : Str)) := by
  unfold isDraw
  rw [h]
theorem drawn_len {st : List StepT} {i : Nat} : (drawnTo st (i + 1)).length = (drawnTo st i).length + if isDraw st i = true then 1 else 0 := by
  rw [drawnTo_succ, List.length_append]
  split <;> rfl
end Er
namespace Er
open PySem PySem.Spec PyProof.Rows L2
theorem lt_not (x n : Int) : (!decide (n ≤ x)) = decide (x < n) := by
  by_cases h : n ≤ x
  · rw [decide_eq_true h, decide_eq_false (by omega)]
    rfl
  · rw [decide_eq_false h, decide_eq_true (by omega)]
    rfl
theorem levs_last {K : PySem.W.Frag} {H : Hp} {vn : List Str} {st : List StepT} {rs : List Addr} (h : Paired (fun r lv => H r = some (.dK (kvL vn lv))) rs (levsOf vn st)) : ∃ rl, atI (rs.map V.ref) (-1) = some (.ref rl) ∧ H rl = some (.dK (kvL vn (levAt vn st))) := by
  have lrs : rs.length = st.length + 1 := by
    rw [pr_len h]
    unfold levsOf
    rw [List.length_map, List.length_range]
  obtain ⟨rl, h1, h2⟩ := pr_at (i := st.length) (y := levAt vn (st.take st.length)) h (by
    unfold levsOf
    rw [List.getElem?_map, List.getElem?_range (by omega)]
    rfl)
  rw [List.take_length] at h2
  refine ⟨rl, at_end ?_, h2⟩
  rw [List.getLast?_eq_getElem?, List.length_map, lrs, List.getElem?_map, show st.length + 1 - 1 = st.length from rfl, h1]
  rfl
end Er
namespace Er
open PySem PySem.Spec PyProof.Rows L2
theorem i_dget {td ty : TE} {σ : L2.St} {H : Hp} {Q : VK} (h : td σ H fun x H1 => ty σ H1 fun y H2 => ∃ a v, x = .ref a ∧ DGet H2 a y (some v) ∧ Q v H2) : tDGet td ty σ H Q := h
end Er
set_option Elab.async false
set_option linter.all false
set_option maxRecDepth 100000
set_option maxHeartbeats 4000000
/-! A law's own reading of a sample. -/
namespace Er
open PySem PySem.Spec PyProof.Rows L2
def three : List Str := ["is", "least", "most"]
def cformB : List Str → Bool
  | [k, _, _] => decide (k ∈ three)
  | [k, _, _, _] => decide (k ∈ three)
  | _ => false
def len45 (m : Int) : Bool := ((4 : Int) == m) || (((5 : Int) == m) || false)
theorem inV_45 (m : Int) : inV (.int m) [.int 4, .int 5] = len45 m := rfl
theorem cformB_eq {init rest : List Str} {last w0 : Str} (h : init ++ [last] = w0 :: rest) : cformB init = (decide (w0 ∈ three) && len45 ((sV (init ++ [last])).length : Nat)) := by
  have e : ((sV (init ++ [last])).length : Int) = ((init.length + 1 : Nat) : Int) := by
    unfold sV
    rw [List.length_map, List.length_append]
    rfl
  rw [e]
  rcases init with _ | ⟨k, _ | ⟨a, _ | ⟨b, _ | ⟨d, _ | ⟨f, l⟩⟩⟩⟩⟩
  · rw [show len45 ((([] : List Str).length + 1 : Nat) : Int) = false from rfl, Bool.and_false]
    rfl
  · rw [show len45 (([k].length + 1 : Nat) : Int) = false from rfl, Bool.and_false]
    rfl
  · rw [show len45 (([k, a].length + 1 : Nat) : Int) = false from rfl, Bool.and_false]
    rfl
  · rw [show len45 (([k, a, b].length + 1 : Nat) : Int) = true from rfl, Bool.and_true, ← (List.cons.inj h).1]
    rfl
  · rw [show len45 (([k, a, b, d].length + 1 : Nat) : Int) = true from rfl, Bool.and_true, ← (List.cons.inj h).1]
    rfl
  · have z : len45 (((k :: a :: b :: d :: f :: l).length + 1 : Nat) : Int) = false := by
      unfold len45
      simp only [List.length_cons, Bool.or_false, Bool.or_eq_false_iff, beq_eq_false_iff_ne]
      omega
    rw [z, Bool.and_false]
    rfl
theorem cform_of {init : List Str} (h : cformB init = true) : ∃ k n w1 mid, init = k :: n :: w1 :: mid ∧ k ∈ three ∧ (mid = [] ∨ ∃ x, mid = [x]) := by
  rcases init with _ | ⟨k, _ | ⟨a, _ | ⟨b, _ | ⟨d, _ | ⟨f, l⟩⟩⟩⟩⟩
  · cases h
  · cases h
  · cases h
  · exact ⟨k, a, b, [], rfl, of_decide_eq_true h, .inl rfl⟩
  · exact ⟨k, a, b, [d], rfl, of_decide_eq_true h, .inr ⟨d, rfl⟩⟩
  · cases h
theorem samp_form {vn : List Str} {many : Int} {init : List Str} {last : Str} (h : sampB vn many (sampOf init last) = true) : cformB init = true := by
  rcases init with _ | ⟨k, _ | ⟨a, _ | ⟨b, _ | ⟨d, _ | ⟨f, l⟩⟩⟩⟩⟩
  · cases h
  · cases h
  · have z := (Bool.and_eq_true_iff.mp (Bool.and_eq_true_iff.mp h).2).2
    cases z
  · exact (Bool.and_eq_true_iff.mp h).1
  · exact (Bool.and_eq_true_iff.mp h).1
  · have z := (Bool.and_eq_true_iff.mp (Bool.and_eq_true_iff.mp h).2).2
    cases z
def claimOk (vn : List Str) (st : List StepT) (sa : List SampT) (z : SampT) : Bool := sampB vn (st.length : Nat) z && (decide (sa.length ≠ 6) && decide (z ∉ sa))
theorem bad_samp {vn : List Str} {st : List StepT} {sa : List SampT} {z : SampT} (h : sampB vn (st.length : Nat) z = false) : claimOk vn st sa z = false := by
  unfold claimOk
  rw [h, Bool.false_and]
theorem bad_cform {vn : List Str} {st : List StepT} {sa : List SampT} {init : List Str} {last : Str} (h : (cformB init && decide (sa.length ≠ 6)) = false) : claimOk vn st sa (sampOf init last) = false := by
  cases e : sampB vn (st.length : Nat) (sampOf init last) with
  | false => exact bad_samp e
  | true =>
    rw [samp_form e, Bool.true_and] at h
    unfold claimOk
    rw [h, Bool.false_and, Bool.and_false]
theorem spot_some {vn : List Str} {many : Int} {o : Option Int} {ws : List Str} (h : spotB vn many o ws = true) : o.isSome = true := by
  cases o with
  | some j => rfl
  | none =>
    rcases ws with _ | ⟨a, _ | ⟨b, _ | ⟨c, l⟩⟩⟩
    · cases h
    · exact absurd (Bool.and_eq_true_iff.mp h).2 (fun y => by cases y)
    · exact absurd (Bool.and_eq_true_iff.mp (Bool.and_eq_true_iff.mp h).2).2 (fun y => by cases y)
    · cases h
theorem bad_num {vn : List Str} {st : List StepT} {sa : List SampT} {k n : Str} {r : List Str} {last : Str} (h : (inO (intOfS n) 0 9999 && (intOfS last).isSome) = false) : claimOk vn st sa (sampOf (k :: n :: r) last) = false := by
  cases e : sampB vn (st.length : Nat) (sampOf (k :: n :: r) last) with
  | false => exact bad_samp e
  | true =>
    obtain ⟨z1, z2⟩ := Bool.and_eq_true_iff.mp (Bool.and_eq_true_iff.mp e).2
    rw [z1, spot_some z2] at h
    cases h
def OptClaim (K : PySem.W.Frag) (H : Hp) (v : V) (z : SampT) (c : Bool) : Prop := if c = true then SampV K H v z else v = .non
theorem claim_fin {K : PySem.W.Frag} {H : Hp} {v : V} {vn : List Str} {st : List StepT} {sa : List SampT} {z z1 : SampT} (h6 : sa.length ≠ 6) (e : z1 = if sampB vn (st.length : Nat) z = true then z else none) (hv : if z1 ∈ sa then v = .non else SampV K H v z1) : OptClaim K H v z (claimOk vn st sa z) := by
  unfold OptClaim claimOk
  rw [decide_eq_true h6, Bool.true_and]
  by_cases b : sampB vn (st.length : Nat) z = true
  · rw [if_pos b] at e
    subst e
    rw [b, Bool.true_and]
    by_cases m : z1 ∈ sa
    · rw [if_pos m] at hv
      rw [if_neg (by simpa using m)]
      exact hv
    · rw [if_neg m] at hv
      rw [if_pos (by simpa using m)]
      exact hv
  · rw [if_neg b] at e
    subst e
    rw [if_neg (by simp [b])]
    by_cases m : (none : SampT) ∈ sa
    · rw [if_pos m] at hv
      exact hv
    · rw [if_neg m] at hv
      exact hv
theorem at_2 (a b c : V) (xs : List V) : atI (a :: b :: c :: xs) 2 = some c := by
  unfold atI ixN
  rw [if_pos (by decide), if_pos (by simp only [List.length_cons]; omega)]
  rfl
theorem at_3 (a b c d : V) (xs : List V) : atI (a :: b :: c :: d :: xs) 3 = some d := by
  unfold atI ixN
  rw [if_pos (by decide), if_pos (by simp only [List.length_cons]; omega)]
  rfl
theorem andV_rest {ta tb : TE} {σ : L2.St} {H : Hp} {Q : VK} (c : Bool) (rest : ∀ H3, Same H H3 → Q (.bl c) H3) (go : ∀ Q' : VK, (∀ H3, Same H H3 → Q' (.bl c) H3) → tAndV ta tb σ H Q') : tAndV ta tb σ H Q := go _ rest
/-- return None if found in own['samples'] else found -/
theorem claim_end {K : PySem.W.Frag} {σ : L2.St} {H : Hp} {D : Ends} {o : Addr} {vn : List Str} {st : List StepT} {sa : List SampT} {z : SampT} {v : V} (h0 : σ[0]? = some (some (.ref o))) (h4 : σ[4]? = some (some v)) (hO : OwnAt K H o vn st sa) (hz : SampV K H v z) (ok : SOk z) (hsa : ∀ z ∈ sa, SOk z)
    (q : ∀ v', (if z ∈ sa then v' = .non else SampV K H v' z) → D.rt v' H) : tRet (tIf (tTest (tOp (rInD K) (tVar 4) (tDGet (tVar 0) (tC (.str "samples"))))) (tC .non) (tVar 4)) D σ H := by
  obtain ⟨a, b, c, us, ws, hO, hA, hB, hS, hC, hW⟩ := hO
  refine i_ret (i_ifx (i_test (i_op (i_var h4 ⟨_, h0, o, _, rfl, get_dk (k := .inr "samples") hO (own_c a b c), sampD z, sa.map sampD, dp_samp hz, .lst hC (dp_samps hW), shaped_samp z ok, shaped_samps sa hsa, _, rfl, ?_⟩))))
  rw [any_samp]
  by_cases m : z ∈ sa
  · rw [decide_eq_true m]
    exact iteT (q .non (by rw [if_pos m]))
  · rw [decide_eq_false m]
    exact iteF ⟨v, h4, q v (by rw [if_neg m]; exact hz)⟩
def spClaimIn (K : PySem.W.Frag) : Sp := fun vs H Q _ => ∃ o w vn st sa init last, vs = [.ref o, .ref w] ∧ OwnAt K H o vn st sa ∧ st.length ≤ 1000 ∧ vn.length ≤ 1000 ∧ SqL K H w (sV (init ++ [last])) ∧ init.length ≤ 1000 ∧ last.length ≤ 500 ∧ (∀ x ∈ init, x.length ≤ 500) ∧ WOk init ∧ (∀ z ∈ sa, SOk z) ∧
  ∀ v H', Same H H' → OptClaim K H' v (sampOf init last) (claimOk vn st sa (sampOf init last)) → Q v H'
end Er
set_option Elab.async false
set_option linter.all false
set_option maxRecDepth 100000
set_option maxHeartbeats 4000000
/-! A law's own reading of a line tells what the program's reading tells. -/
namespace Er
open PySem PySem.Spec PyProof.Rows L2
theorem min_all {l : List Int} (h : l ≠ []) : (0 ≤ PySem.W.minOf (l.headD 0) l.tail ↔ ∀ y ∈ l, 0 ≤ y) := by
  cases l with
  | nil => exact absurd rfl h
  | cons a l =>
    show 0 ≤ PySem.W.minOf a l ↔ _
    rw [minOf_ge]
    constructor
    · rintro ⟨h1, h2⟩ y hy
      exact (List.mem_cons.mp hy).elim (fun z => by omega) (h2 y)
    · intro h
      exact ⟨h a (List.mem_cons_self ..), fun y hy => h y (List.mem_cons_of_mem _ hy)⟩
theorem set_all {l : List Int} {i : Nat} {x : Int} (hi : i < l.length) (h : ∀ y ∈ l, 0 ≤ y) : (∀ y ∈ l.set i x, 0 ≤ y) ↔ 0 ≤ x := by
  constructor
  · intro z
    exact z x (List.mem_set hi x)
  · intro z y hy
    rcases List.mem_or_eq_of_mem_set hy with m | m
    · exact h y m
    · omega
theorem get_nn {l : List Int} {i : Nat} (h : ∀ y ∈ l, 0 ≤ y) : 0 ≤ l.getD i 0 := by
  rw [List.getD_eq_getElem?_getD]
  cases e : l[i]? with
  | none => simp
  | some y => exact h y (List.mem_of_getElem? e)
/-- with no level below 0: the levels behind a step are not below 0 just if there is enough -/
theorem moved_nn {vn : List Str} {lv : List Int} {ws : List Str} {n : Int} {o : Option Int} (hl : lv.length = vn.length) (h : ∀ y ∈ lv, 0 ≤ y) (hb : stepB vn o ws = true) (e : o = some n) :
    (∀ y ∈ movedL vn lv ws n, 0 ≤ y) ↔ ∀ a, takenS ws = some a → n ≤ lv.getD (vn.idxOf a) 0 := by
  obtain ⟨⟨n', e', hn1, hn2⟩, hc⟩ := step_cases hb
  rw [e] at e'
  cases e'
  have ix : ∀ a, a ∈ vn → vn.idxOf a < lv.length := fun a ha => by rw [hl]; exact List.idxOf_lt_length_of_mem ha
  rcases hc with ⟨a, ha, rfl | rfl | rfl⟩ | ⟨a, b, ha, hb2, hab, rfl⟩
  · rw [mov_fill (by decide +kernel), set_all (ix a ha) h]
    have z := get_nn (i := vn.idxOf a) h
    constructor
    · intro _ c hc
      rw [takenS_2, if_neg (by decide +kernel)] at hc
      cases hc
    · intro _
      omega
  · rw [mov_fill (by decide +kernel), set_all (ix a ha) h]
    have z := get_nn (i := vn.idxOf a) h
    constructor
    · intro _ c hc
      rw [takenS_2, if_neg (by decide +kernel)] at hc
      cases hc
    · intro _
      omega
  · rw [mov_draw, set_all (ix a ha) h]
    constructor
    · intro z c hc
      rw [takenS_2, if_pos rfl] at hc
      cases hc
      omega
    · intro z
      have y := z a (by rw [takenS_2, if_pos rfl])
      omega
  · rw [mov_pour]
    have ne : vn.idxOf a ≠ vn.idxOf b := fun z => hab (by
      have z1 := (idx_at ha).1
      have z2 := (idx_at hb2).1
      rw [z, z2] at z1
      exact (Option.some.inj z1).symm)
    have g : (lv.set (vn.idxOf a) (lv.getD (vn.idxOf a) 0 - n)).getD (vn.idxOf b) 0 = lv.getD (vn.idxOf b) 0 := by
      rw [List.getD_eq_getElem?_getD, List.getElem?_set_ne ne]
      exact (List.getD_eq_getElem?_getD ..).symm
    rw [g]
    have zb := get_nn (i := vn.idxOf b) h
    have key : (∀ y ∈ (lv.set (vn.idxOf a) (lv.getD (vn.idxOf a) 0 - n)).set (vn.idxOf b) (lv.getD (vn.idxOf b) 0 + n), 0 ≤ y) ↔ 0 ≤ lv.getD (vn.idxOf a) 0 - n := by
      constructor
      · intro z
        refine z _ ?_
        rw [List.set_comm _ _ ne]
        exact List.mem_set (by rw [List.length_set]; exact ix a ha) _
      · intro z y hy
        rcases List.mem_or_eq_of_mem_set hy with m | m
        · rcases List.mem_or_eq_of_mem_set m with m | m
          · exact h y m
          · omega
        · omega
    rw [key]
    constructor
    · intro z c hc
      cases hc
      omega
    · intro z
      have y := z a rfl
      omega
theorem levs_len {vn : List Str} {st : List StepT} : (levsOf vn st).length = st.length + 1 := by
  unfold levsOf
  rw [List.length_map, List.length_range]
theorem levs_getLast {vn : List Str} {st : List StepT} : (levsOf vn st).getLastD [] = levAt vn st := by
  unfold levsOf
  rw [List.range_succ, List.map_append]
  show List.getLastD (_ ++ [levAt vn (st.take st.length)]) [] = _
  rw [List.take_length]
  simp
theorem levs_app {vn : List Str} {st : List StepT} {s : StepT} : levsOf vn (st ++ [s]) = levsOf vn st ++ [movedL vn (levAt vn st) s.1 (s.2.getD 0)] := by
  unfold levsOf
  rw [List.length_append, show st.length + [s].length + 1 = (st.length + 1) + 1 from rfl, List.range_succ (n := st.length + 1), List.map_append]
  have e1 : (List.range (st.length + 1)).map (fun i => levAt vn ((st ++ [s]).take i)) = (List.range (st.length + 1)).map (fun i => levAt vn (st.take i)) := by
    refine List.map_congr_left fun i hi => ?_
    rw [List.take_append_of_le_length (by have := List.mem_range.mp hi; omega)]
  rw [e1]
  show _ ++ [levAt vn ((st ++ [s]).take (st.length + 1))] = _
  rw [List.take_of_length_le (by simp), levAt_snoc]
/-- what stands between two lines -/
def MInv (vn : List Str) (st : List StepT) (sa : List SampT) : Prop := (∀ s ∈ st, stepB vn s.2 s.1 = true) ∧ (∀ y ∈ levAt vn st, 0 ≤ y) ∧ (vn.length : Int) + ((drawnTo st st.length).length : Int) ≤ 9 ∧ st.length ≤ 14 ∧ sa.length ≤ 6
theorem low_iff {vn : List Str} {st : List StepT} {ws : List Str} {n : Int} : lowOk vn st ws n = true ↔ ∀ a, takenS ws = some a → n ≤ (levAt vn st).getD (vn.idxOf a) 0 := by
  unfold lowOk
  cases e : takenS ws with
  | none => exact ⟨fun _ a h => (by cases h), fun _ => rfl⟩
  | some a =>
    constructor
    · intro h c hc
      cases hc
      exact of_decide_eq_true h
    · intro h
      exact decide_eq_true (h a rfl)
/-- the level behind a step, as the law's own reading tells it -/
theorem next_eq {vn : List Str} {st : List StepT} {sa : List SampT} {ws : List Str} {o : Option Int} (v : vn ≠ []) (m : MInv vn st sa) :
    nextL vn st (levAt vn st) ws o = if (stepB vn o ws && (!(isDrawW ws && decide ((vn.length : Int) + ((drawnTo st st.length).length : Int) = 9)) && lowOk vn st ws (o.getD 0))) = true then some (movedL vn (levAt vn st) ws (o.getD 0)) else none := by
  obtain ⟨m1, m2, m3, m4, m5⟩ := m
  unfold nextL
  cases hb : stepB vn o ws with
  | false => rw [if_neg (by decide), Bool.false_and, if_neg (by decide)]
  | true =>
    rw [if_pos rfl, Bool.true_and]
    have e9 : decide ((9 : Int) ≤ (vn.length : Int) + ((drawnTo st st.length).length : Int)) = decide ((vn.length : Int) + ((drawnTo st st.length).length : Int) = 9) := decide_eq_decide.mpr (by omega)
    rw [e9]
    cases hd : (isDrawW ws && decide ((vn.length : Int) + ((drawnTo st st.length).length : Int) = 9)) with
    | true => rw [if_pos rfl, Bool.not_true, Bool.false_and, if_neg (by decide)]
    | false =>
      rw [if_neg (by decide), Bool.not_false, Bool.true_and]
      obtain ⟨⟨n, rfl, _, _⟩, _⟩ := step_cases hb
      have hne : movedL vn (levAt vn st) ws n ≠ [] := fun z => v (by
        have y := movedL_len (vn := vn) (ns := levAt vn st) (ws := ws) (m := n)
        rw [z, levAt_len] at y
        exact List.eq_nil_of_length_eq_zero y.symm)
      have k : (0 ≤ PySem.W.minOf ((movedL vn (levAt vn st) ws n).headD 0) (movedL vn (levAt vn st) ws n).tail) ↔ lowOk vn st ws n = true := by
        rw [min_all hne, moved_nn levAt_len m2 hb rfl, low_iff]
      show (if 0 ≤ PySem.W.minOf ((movedL vn (levAt vn st) ws n).headD 0) (movedL vn (levAt vn st) ws n).tail then some (movedL vn (levAt vn st) ws n) else none) = if lowOk vn st ws n = true then some (movedL vn (levAt vn st) ws n) else none
      by_cases y : lowOk vn st ws n = true
      · rw [if_pos (k.mpr y), if_pos y]
      · rw [if_neg (fun z => y (k.mp z)), if_neg y]
theorem samp_eq {vn : List Str} {st : List StepT} {sa : List SampT} {lv : List (List Int)} {l : LW} (h6 : sa.length ≤ 6) : sampR vn (st, sa, lv) l = if claimOk vn st sa (sampOf l.1 l.2) = true then some (st, sa ++ [sampOf l.1 l.2], lv) else none := by
  unfold sampR claimOk
  have k : (sampB vn (st.length : Nat) (sampOf l.1 l.2) = true ∧ sa.length < 6 ∧ sampOf l.1 l.2 ∉ sa) ↔ (sampB vn (st.length : Nat) (sampOf l.1 l.2) && (decide (sa.length ≠ 6) && decide (sampOf l.1 l.2 ∉ sa))) = true := by
    simp only [Bool.and_eq_true, decide_eq_true_eq]
    constructor
    · rintro ⟨a, b, c⟩
      exact ⟨a, by omega, c⟩
    · rintro ⟨a, b, c⟩
      exact ⟨a, by omega, c⟩
  by_cases y : (sampB vn (st.length : Nat) (sampOf l.1 l.2) && (decide (sa.length ≠ 6) && decide (sampOf l.1 l.2 ∉ sa))) = true
  · rw [if_pos y]
    exact if_pos (k.mpr y)
  · rw [if_neg y]
    exact if_neg fun z => y (k.mp z)
theorem line_eq {vn : List Str} {st : List StepT} {sa : List SampT} {l : LW} (v : vn ≠ []) (m : MInv vn st sa) : lineR vn (st, sa, levsOf vn st) l = if deedOk vn st sa l.1 (intOfS l.2) = true then some (st ++ [(l.1, intOfS l.2)], sa, levsOf vn (st ++ [(l.1, intOfS l.2)])) else if claimOk vn st sa (sampOf l.1 l.2) = true then some (st, sa ++ [sampOf l.1 l.2], levsOf vn st) else none := by
  have e : levelOf vn (st, sa, levsOf vn st) l = _ := (show nextL vn st ((levsOf vn st).getLastD []) l.1 (intOfS l.2) = nextL vn st (levAt vn st) l.1 (intOfS l.2) by rw [levs_getLast]).trans (next_eq (sa := sa) v m)
  have hd : deedOk vn st sa l.1 (intOfS l.2) = ((stepB vn (intOfS l.2) l.1 && (!(isDrawW l.1 && decide ((vn.length : Int) + ((drawnTo st st.length).length : Int) = 9)) && lowOk vn st l.1 ((intOfS l.2).getD 0))) && (decide (sa = []) && decide (st.length ≠ 14))) := by
    unfold deedOk
    cases stepB vn (intOfS l.2) l.1 <;> cases decide (sa = []) <;> cases decide (st.length ≠ 14) <;> simp
  unfold lineR
  rw [e, hd]
  cases hc : (stepB vn (intOfS l.2) l.1 && (!(isDrawW l.1 && decide ((vn.length : Int) + ((drawnTo st st.length).length : Int) = 9)) && lowOk vn st l.1 ((intOfS l.2).getD 0))) with
  | false =>
    rw [if_neg (show ¬ false = true by decide), Bool.false_and, if_neg (show ¬ false = true by decide)]
    exact samp_eq m.2.2.2.2
  | true =>
    rw [if_pos (show true = true from rfl), Bool.true_and]
    show (if st.length < 14 ∧ sa = [] then some (st ++ [(l.1, intOfS l.2)], sa, levsOf vn st ++ [movedL vn (levAt vn st) l.1 ((intOfS l.2).getD 0)]) else sampR vn (st, sa, levsOf vn st) l) = _
    have m4 := m.2.2.2.1
    by_cases y : st.length < 14 ∧ sa = []
    · rw [if_pos y, if_pos (by rw [decide_eq_true y.2, decide_eq_true (show st.length ≠ 14 by omega)]; rfl), levs_app]
    · rw [if_neg y, if_neg (fun z => y ?_)]
      · exact samp_eq m.2.2.2.2
      · obtain ⟨z1, z2⟩ := Bool.and_eq_true_iff.mp z
        have z3 : st.length ≠ 14 := of_decide_eq_true z2
        exact ⟨by omega, of_decide_eq_true z1⟩
theorem isDraw_app {st : List StepT} {s : StepT} {i : Nat} (h : i < st.length) : isDraw (st ++ [s]) i = isDraw st i := by
  unfold isDraw
  rw [List.getElem?_append_left h]
theorem isDraw_end {st : List StepT} {s : StepT} : isDraw (st ++ [s]) st.length = isDrawW s.1 := by
  unfold isDraw
  rw [List.getElem?_append_right (Nat.le_refl _), Nat.sub_self]
  obtain ⟨w, o⟩ := s
  cases w with
  | nil => rfl
  | cons k r => rfl
theorem drawn_app {st : List StepT} {s : StepT} : (drawnTo (st ++ [s]) (st ++ [s]).length).length = (drawnTo st st.length).length + if isDrawW s.1 = true then 1 else 0 := by
  rw [List.length_append, show st.length + [s].length = st.length + 1 from rfl, drawn_len, isDraw_end]
  have e : drawnTo (st ++ [s]) st.length = drawnTo st st.length := by
    unfold drawnTo
    exact List.filter_congr fun i hi => isDraw_app (List.mem_range.mp hi)
  rw [e]
theorem minv_nil {vn : List Str} (h : vn.length ≤ 6) : MInv vn [] [] := by
  refine ⟨fun s hs => (by cases hs), fun y hy => ?_, ?_, by decide, by decide⟩
  · have z := List.eq_of_mem_replicate (show y ∈ List.replicate vn.length 0 from hy)
    omega
  · show (vn.length : Int) + 0 ≤ 9
    omega
theorem minv_step {vn : List Str} {st : List StepT} {sa : List SampT} {ws : List Str} {o : Option Int} (m : MInv vn st sa) (h : deedOk vn st sa ws o = true) : MInv vn (st ++ [(ws, o)]) sa := by
  obtain ⟨m1, m2, m3, m4, m5⟩ := m
  unfold deedOk at h
  simp only [Bool.and_eq_true] at h
  obtain ⟨h1, h2, h3, h4, h5⟩ := h
  obtain ⟨⟨n, rfl, _, _⟩, _⟩ := step_cases h1
  refine ⟨fun s hs => ?_, ?_, ?_, ?_, m5⟩
  · rcases List.mem_append.mp hs with hs | hs
    · exact m1 s hs
    · rw [List.mem_singleton.mp hs]
      exact h1
  · rw [levAt_snoc]
    exact (moved_nn levAt_len m2 h1 rfl).mpr (low_iff.mp h5)
  · rw [drawn_app]
    by_cases y : isDrawW ws = true
    · rw [if_pos y]
      rw [y, Bool.true_and] at h4
      have z : ¬ (vn.length : Int) + ((drawnTo st st.length).length : Int) = 9 := fun z => by
        rw [decide_eq_true z] at h4
        cases h4
      omega
    · rw [if_neg y]
      omega
  · rw [List.length_append]
    have z : st.length ≠ 14 := of_decide_eq_true h3
    show st.length + 1 ≤ 14
    omega
theorem minv_samp {vn : List Str} {st : List StepT} {sa : List SampT} {z : SampT} (m : MInv vn st sa) (h : claimOk vn st sa z = true) : MInv vn st (sa ++ [z]) := by
  obtain ⟨m1, m2, m3, m4, m5⟩ := m
  unfold claimOk at h
  simp only [Bool.and_eq_true] at h
  obtain ⟨h1, h2, h3⟩ := h
  refine ⟨m1, m2, m3, m4, ?_⟩
  rw [List.length_append]
  have y : sa.length ≠ 6 := of_decide_eq_true h2
  show sa.length + 1 ≤ 6
  omega
/-- the first wrong line, by the law's own reading -/
def wrongL (vn : List Str) : Nat → List LW → List StepT → List SampT → Option Int
  | _, [], _, _ => none
  | n, l :: ls, st, sa => if deedOk vn st sa l.1 (intOfS l.2) = true then wrongL vn (n + 1) ls (st ++ [(l.1, intOfS l.2)]) sa else if claimOk vn st sa (sampOf l.1 l.2) = true then wrongL vn (n + 1) ls st (sa ++ [sampOf l.1 l.2]) else some n
theorem wrong_eq {vn : List Str} (v : vn ≠ []) : ∀ (L : List LW) (n : Nat) (st : List StepT) (sa : List SampT), MInv vn st sa → (match linesR vn n L (st, sa, levsOf vn st) with
    | .inl k => some (k : Int)
    | .inr _ => none) = wrongL vn n L st sa
  | [], _, _, _, _ => rfl
  | l :: ls, n, st, sa, m => by
    unfold linesR wrongL
    rw [line_eq v m]
    by_cases y : deedOk vn st sa l.1 (intOfS l.2) = true
    · rw [if_pos y, if_pos y]
      exact wrong_eq v ls (n + 1) _ _ (minv_step m y)
    · rw [if_neg y, if_neg y]
      by_cases y2 : claimOk vn st sa (sampOf l.1 l.2) = true
      · rw [if_pos y2, if_pos y2]
        exact wrong_eq v ls (n + 1) _ _ (minv_samp m y2)
      · rw [if_neg y2, if_neg y2]
theorem verdict_eq {k : Str} {ns : List Str} {L : List LW} : verdict k ns L = match vessL k ns with
    | none => some 1
    | some vn => wrongL vn 2 L [] [] := by
  unfold verdict
  cases e : vessL k ns with
  | none => rfl
  | some vn =>
    obtain ⟨h1, h2, h3⟩ := vess6 e
    have z := wrong_eq (vn := vn) (fun y => by rw [y] at h2; exact absurd h2 (by decide)) L 2 [] [] (minv_nil h3)
    have e0 : levsOf vn [] = [List.replicate vn.length 0] := rfl
    rw [e0] at z
    show (match readA vn L with | .inl n => some (n : Int) | .inr _ => none) = wrongL vn 2 L [] []
    rw [← z]
    rfl
end Er
set_option Elab.async false
set_option linter.all false
set_option maxRecDepth 100000
set_option maxHeartbeats 4000000
/-! The first wrong line of a text, by a law's own reading. -/
namespace Er
open PySem PySem.Spec PyProof.Rows L2
theorem put_new {k : Key} {v : V} {l : List (Key × V)} (h : ∀ kv ∈ l, kv.1 ≠ k) : putK l k v = l ++ [(k, v)] := by
  unfold putK
  rw [if_neg fun z => ?_]
  obtain ⟨kv, hk, e⟩ := List.any_eq_true.mp z
  exact h kv hk (of_decide_eq_true e)
theorem merge_own (a b c : Addr) : mergeK [] (ownKV a b c) = ownKV a b c := by
  have n1 : (Sum.inr ("vessels" : Str) : Key) ≠ .inr "steps" := by decide +kernel
  have n2 : (Sum.inr ("vessels" : Str) : Key) ≠ .inr "samples" := by decide +kernel
  have n3 : (Sum.inr ("steps" : Str) : Key) ≠ .inr "samples" := by decide +kernel
  have s1 : putK ([] : List (Key × V)) (.inr "vessels") (.ref a) = [(.inr "vessels", .ref a)] := put_new (fun kv h => by cases h)
  have s2 : putK ([(.inr "vessels", .ref a)] : List (Key × V)) (.inr "steps") (.ref b) = [(.inr "vessels", .ref a), (.inr "steps", .ref b)] := put_new (fun kv h => by
    rw [List.mem_singleton.mp h]
    exact n1)
  have s3 : putK ([(.inr "vessels", .ref a), (.inr "steps", .ref b)] : List (Key × V)) (.inr "samples") (.ref c) = ownKV a b c := put_new (fun kv h => by
    rcases List.mem_cons.mp h with h | h
    · rw [h]
      exact n2
    · rw [List.mem_singleton.mp h]
      exact n3)
  show putK (putK (putK [] (.inr "vessels" : Key) (.ref a)) (.inr "steps") (.ref b)) (.inr "samples") (.ref c) = _
  rw [s1, s2, s3]
/-- the own dict, its lists as they are told in the heap -/
def OwnE (K : PySem.W.Frag) (H : Hp) (o a : Addr) (vn : List Str) (st : List StepT) (sa : List SampT) : Prop := ∃ b c us ws, H o = some (.dK (ownKV a b c)) ∧ H a = some (.lst (sV vn)) ∧ H b = some (.lst us) ∧ StepsAt K H us st ∧ H c = some (.lst ws) ∧ SampsAt K H ws sa
theorem OwnE.own {K : PySem.W.Frag} {H : Hp} {o a : Addr} {vn : List Str} {st : List StepT} {sa : List SampT} (h : OwnE K H o a vn st sa) : OwnAt K H o vn st sa := by
  obtain ⟨b, c, us, ws, h1, h2, h3, h4, h5, h6⟩ := h
  exact ⟨a, b, c, us, ws, h1, SqL.of h2, SqL.of h3, h4, SqL.of h5, h6⟩
theorem OwnE.same {K : PySem.W.Frag} {H H' : Hp} {o a : Addr} {vn : List Str} {st : List StepT} {sa : List SampT} (s : Same H H') (h : OwnE K H o a vn st sa) : OwnE K H' o a vn st sa := by
  obtain ⟨b, c, us, ws, h1, h2, h3, h4, h5, h6⟩ := h
  exact ⟨b, c, us, ws, s _ _ h1, s _ _ h2, s _ _ h3, h4.same s, s _ _ h5, h6.keep (.of s)⟩
def spFirstW (K : PySem.W.Frag) : Sp := fun vs H Q _ => ∃ a l0 ls k ns L, vs = [.ref a] ∧ SqL K H a (sV (l0 :: ls)) ∧ ls.length ≤ 1000 ∧ Txt.split l0 " " = k :: ns ∧ l0.length ≤ 100000 ∧ ns.length ≤ 1000 ∧ (∀ w ∈ ns, w.length ≤ 100000) ∧ Paired (fun l w => LineW l w.1 w.2) ls L ∧ (∀ w ∈ L, WOk w.1) ∧
  ∀ H', Same H H' → Q (optV (verdict k ns L)) H'
theorem vess_no {k : Str} {ns : List Str} {L : List LW} (h : ¬ (k = ("vessels" : Str) ∧ 1 ≤ ns.length ∧ ns.length ≤ 6 ∧ (ns.all isNameS = true) ∧ ns.Nodup)) : verdict k ns L = some 1 := by
  rw [verdict_eq, show vessL k ns = none from if_neg h]
theorem vess_yes {k : Str} {ns : List Str} {L : List LW} (h : k = ("vessels" : Str) ∧ 1 ≤ ns.length ∧ ns.length ≤ 6 ∧ (ns.all isNameS = true) ∧ ns.Nodup) : verdict k ns L = wrongL ns 2 L [] [] := by
  rw [verdict_eq, show vessL k ns = some ns from if_pos h]
end Er
namespace Er
open PySem PySem.Spec PyProof.Rows L2
theorem put_b (a b c d : Addr) : putK (ownKV a b c) (.inr "steps" : Key) (.ref d) = ownKV a d c := by
  have n1 : (Sum.inr ("vessels" : Str) : Key) ≠ .inr "steps" := by decide +kernel
  have n3 : (Sum.inr ("samples" : Str) : Key) ≠ .inr "steps" := by decide +kernel
  have y : ((ownKV a b c).any fun kv => decide (kv.1 = (.inr "steps" : Key))) = true := List.any_eq_true.mpr ⟨((.inr "steps" : Key), V.ref b), List.mem_cons_of_mem _ (List.mem_cons_self ..), decide_eq_true rfl⟩
  unfold putK
  rw [if_pos y]
  show [if _ then _ else _, if _ then _ else _, if _ then _ else _] = _
  rw [if_neg n1, if_pos rfl, if_neg n3]
  rfl
theorem put_c (a b c d : Addr) : putK (ownKV a b c) (.inr "samples" : Key) (.ref d) = ownKV a b d := by
  have n1 : (Sum.inr ("vessels" : Str) : Key) ≠ .inr "samples" := by decide +kernel
  have n3 : (Sum.inr ("steps" : Str) : Key) ≠ .inr "samples" := by decide +kernel
  have y : ((ownKV a b c).any fun kv => decide (kv.1 = (.inr "samples" : Key))) = true := List.any_eq_true.mpr ⟨((.inr "samples" : Key), V.ref c), List.mem_cons_of_mem _ (List.mem_cons_of_mem _ (List.mem_cons_self ..)), decide_eq_true rfl⟩
  unfold putK
  rw [if_pos y]
  show [if _ then _ else _, if _ then _ else _, if _ then _ else _] = _
  rw [if_neg n1, if_neg n3, if_pos rfl]
  rfl
/-- no line is both -/
theorem not_both {vn : List Str} {st : List StepT} {sa : List SampT} {init : List Str} {last : Str} (h : deedOk vn st sa init (intOfS last) = true) : claimOk vn st sa (sampOf init last) = false := by
  cases e : claimOk vn st sa (sampOf init last) with
  | false => rfl
  | true =>
    have h1 : stepB vn (intOfS last) init = true := (Bool.and_eq_true_iff.mp h).1
    have h2 := samp_form (Bool.and_eq_true_iff.mp e).1
    obtain ⟨_, ⟨a, _, rfl | rfl | rfl⟩ | ⟨a, b, _, _, _, rfl⟩⟩ := step_cases h1
    · cases h2
    · cases h2
    · cases h2
    · exact absurd (of_decide_eq_true (show decide (("pour" : Str) ∈ three) = true from h2)) (by decide +kernel)
end Er
set_option Elab.async false
set_option linter.all false
set_option maxRecDepth 100000
set_option maxHeartbeats 4000000
/-! A dict of an own name that alone changes: what stays. -/
namespace Er
open PySem PySem.Spec PyProof.Rows L2
/-- all but what is at p stays -/
def Bar (p : Addr) (H H' : Hp) : Prop := ∀ x o, x ≠ p → H x = some o → H' x = some o
theorem Bar.of {p : Addr} {H H' : Hp} (s : Same H H') : Bar p H H' := fun x o _ e => s x o e
theorem Bar.put {p : Addr} {H H1 : Hp} {o : HO} (s : Same H H1) : Bar p H (upd H1 p o) := fun x y n e => (upd_ne n).trans (s x y e)
theorem Bar.trans {p : Addr} {H H1 H2 : Hp} (a : Bar p H H1) (b : Bar p H1 H2) : Bar p H H2 := fun x o n e => b x o n (a x o n e)
theorem Bar.same {p : Addr} {H0 H H' : Hp} (b : Bar p H H') (s : Same H0 H) (n : H0 p = none) : Same H0 H' := fun x o e => b x o (fun z => by rw [z, n] at e; cases e) (s x o e)
theorem Bar.lst {p x : Addr} {H H' : Hp} {kvs : List (Key × V)} {ys : List V} (b : Bar p H H') (h : H p = some (.dK kvs)) (e : H x = some (.lst ys)) : H' x = some (.lst ys) := b x _ (fun z => by rw [z, h] at e; cases e) e
theorem Bar.keep {K : PySem.W.Frag} {p : Addr} {H H' : Hp} {kvs : List (Key × V)} (b : Bar p H H') (h : H p = some (.dK kvs)) : KeepT K H H' := fun r xs q => by
  rcases q with (q | ⟨u, q⟩) | q
  · exact .inl (.inl (b _ _ (fun z => by rw [z, h] at q; cases q) q))
  · exact .inl (.inr ⟨u, b _ _ (fun z => by rw [z, h] at q; cases q) q⟩)
  · exact .inr q
/-- a list with one thing, or with none -/
def optL (v : V) : List V := if v = .non then [] else [v]
theorem own_cat {K : PySem.W.Frag} {σ : L2.St} {H : Hp} {Q : VK} {po a b c l : Addr} {i j : Nat} {k : Str} {v : V} {xs : List V} (e3 : σ[j]? = some (some (.ref po))) (ei : σ[i]? = some (some v)) (hO : H po = some (.dK (ownKV a b c)))
    (g : valV (ownKV a b c) (.inr k : Key) = some (.ref l)) (hl : H l = some (.lst xs)) (hz : xs.length ≤ 1000)
    (q : ∀ H1 p, Same H H1 → H1 p = some (.lst (xs ++ optL v)) → Q (.ref p) H1) :
    tOp rCat (tDGet (tVar j) (tC (.str k))) (tIf (tTest (tOp (fun x y H Q => y = V.non ∧ Q (V.bl !decide (x = V.non)) H) (tVar i) (tC .non))) (tLst (tCons (tVar i) tNil)) (tLst tNil)) σ H Q := by
  refine i_op (i_dget ⟨_, e3, po, _, rfl, get_dk (k := .inr k) hO g, ?_⟩)
  refine i_ifx (i_test (i_op (i_var ei (i_c ⟨rfl, _, rfl, ?_⟩))))
  by_cases h : v = .non
  · rw [decide_eq_true h]
    refine iteF (i_lst (i_nil ⟨by show 0 ≤ sizeLine; decide, fun p1 n1 => ⟨l, p1, xs, [], rfl, rfl, same_new n1 _ _ hl, upd_same, ?_, fun p n => ?_⟩⟩))
    · exact Nat.le_trans (show xs.length + 0 ≤ 1000 by omega) (by decide)
    · refine q _ p ((same_new n1).trans (same_new n)) ?_
      rw [upd_same, optL, if_pos h]
  · rw [decide_eq_false h]
    refine iteT (i_lst (i_cons (i_var ei (i_nil ⟨by show 1 ≤ sizeLine; decide, fun p1 n1 => ⟨l, p1, xs, [v], rfl, rfl, same_new n1 _ _ hl, upd_same, ?_, fun p n => ?_⟩⟩))))
    · exact Nat.le_trans (show xs.length + 1 ≤ 1001 by omega) (by decide)
    · refine q _ p ((same_new n1).trans (same_new n)) ?_
      rw [upd_same, optL, if_neg h]
theorem steps_one {K : PySem.W.Frag} {H : Hp} {us : List V} {st : List StepT} {v : V} {init : List Str} {o : Option Int} {c : Bool} (h : StepsAt K H us st) (hv : OptDeed K H v init o c) : StepsAt K H (us ++ optL v) (if c = true then st ++ [(init, o)] else st) := by
  unfold OptDeed at hv
  cases c with
  | true =>
    obtain ⟨p, rfl, hp⟩ := hv
    rw [if_pos rfl, optL, if_neg (fun z => nomatch z)]
    exact h.snoc hp
  | false =>
    rw [if_neg (by decide)] at hv ⊢
    rw [optL, if_pos hv, List.append_nil]
    exact h
theorem OptDeed.same {K : PySem.W.Frag} {H H' : Hp} {v : V} {init : List Str} {o : Option Int} {c : Bool} (s : Same H H') (h : OptDeed K H v init o c) : OptDeed K H' v init o c := by
  unfold OptDeed at h ⊢
  cases c with
  | true =>
    obtain ⟨p, e, hp⟩ := h
    exact ⟨p, e, sameT s hp⟩
  | false => exact h
theorem OptClaim.same {K : PySem.W.Frag} {H H' : Hp} {v : V} {z : SampT} {c : Bool} (s : Same H H') (h : OptClaim K H v z c) : OptClaim K H' v z c := by
  unfold OptClaim at h ⊢
  cases c with
  | true => exact SampV.same s h
  | false => exact h
theorem claim_non {vn : List Str} {st : List StepT} {sa : List SampT} {z : SampT} (h : claimOk vn st sa z = true) : z ≠ none := fun e => by
  rw [e] at h
  have y := (Bool.and_eq_true_iff.mp h).1
  cases y
theorem samps_one {K : PySem.W.Frag} {H : Hp} {us : List V} {sa : List SampT} {v : V} {z : SampT} {c : Bool} (h : SampsAt K H us sa) (hv : OptClaim K H v z c) (n : c = true → z ≠ none) : SampsAt K H (us ++ optL v) (if c = true then sa ++ [z] else sa) := by
  unfold OptClaim at hv
  cases c with
  | true =>
    rw [if_pos rfl] at hv ⊢
    have ne : v ≠ .non := by
      rcases z with _ | ⟨x, o1, ws, o2⟩
      · exact absurd rfl (n rfl)
      · obtain ⟨a, b, e, _⟩ := hv
        rw [e]
        exact fun z => nomatch z
    rw [optL, if_neg ne]
    exact h.snoc hv
  | false =>
    rw [if_neg (by decide)] at hv ⊢
    rw [optL, if_pos hv, List.append_nil]
    exact h
end Er
set_option Elab.async false
set_option linter.all false
set_option maxRecDepth 100000
set_option maxHeartbeats 4000000
/-! Draws of yards: one of a list, an odd value. -/
namespace Er
open PySem PySem.Spec PyProof.Rows L2
def spOf (K : PySem.W.Frag) : Sp := fun vs H Q _ => ∃ (p l : Addr) (xs : List V) (n : Int), vs = [.ref p, .ref l] ∧ SqL K (But H p) l xs ∧ 0 < xs.length ∧ xs.length ≤ 1000 ∧ Pot H p n ∧ n < 100000 ∧
  ∀ (H' : Hp) (v : V), Same (But H p) (But H' p) → Pot H' p (n + 1) → v ∈ xs → Q v H'
theorem Pot.up {H : Hp} {p : Addr} {n m : Int} (h : Pot H p n) (h1 : n ≤ m) (h2 : m ≤ 100000) : Pot H p m := by
  obtain ⟨a, b, c, e, q1, q2, q3, q4, q5, q6⟩ := h
  exact ⟨a, b, c, e, q1, q2, q3, q4, by omega, h2⟩
def od1 : List PyData := [.none, .bool true, .bool false, .int 0, .int 1, .int (-1), .int 7, .str "", .str "a", .str "by", .str "nosuch", .tuple [], .list [], .dict [], .tuple [.int 0], .tuple [.tuple []], .list [.int 0], .tuple [.str "a"], .tuple [.str "a", .int 0]]
def od2 : List PyData := [.tuple [.str "by", .int 0], .tuple [.str "in", .str "a", .int 1], .tuple [.tuple [.str "a", .int 0]], .tuple [.none], .dict [(.str "a", .int 1)], .str "A", .tuple [.int 0, .int 0], .tuple [.str "mixing", .tuple []], .int (10 ^ Int.toNat 8)]
def oddDs : List PyData := od1 ++ od2
def spOdd (K : PySem.W.Frag) : Sp := fun vs H Q _ => ∃ (p : Addr) (n : Int), vs = [.ref p] ∧ Pot H p n ∧ n < 100000 ∧ ∀ (H' : Hp) (v : V) (d : PyData), d ∈ oddDs → Same (But H p) (But H' p) → Pot H' p (n + 1) → Fre K H H' p v d → Q v H'
end Er
set_option Elab.async false
set_option linter.all false
set_option maxRecDepth 100000
set_option maxHeartbeats 4000000
/-! [e for x in source if test]: what stays; and cuts. -/
namespace Er
open PySem PySem.Spec PyProof.Rows L2
theorem cut_te {te : TE} {σ : L2.St} {H : Hp} {Q : VK} (R : V → Hp → Prop) (go : ∀ Q' : VK, (∀ v H', R v H' → Q' v H') → te σ H Q') (rest : ∀ v H', R v H' → Q v H') : te σ H Q := go Q rest
theorem cut_tt {t : TT} {σ : L2.St} {H : Hp} {Q : Bool → Hp → Prop} (R : Bool → Hp → Prop) (go : ∀ Q' : Bool → Hp → Prop, (∀ v H', R v H' → Q' v H') → t σ H Q') (rest : ∀ v H', R v H' → Q v H') : t σ H Q := go Q rest
theorem lr_filter {α : Type} {J : It} {n : Nat} {G : Hp → Prop} {Y : Nat → Hp → V → Hp → Prop} {g : TG} {te : TE} {tt : TT} {σ : L2.St} {H : Hp} {vs : List Nat} {Dl : Addr} {Qd : Hp → Prop} (w : Walk J n G Y) (as : List α) (keep : α → Bool) (out : α → V) (hn : as.length = n) (h5 : n ≤ 100000) (nD : H Dl = none) (hG : ∀ H2, Same H H2 → G H2)
    (hs : ∀ (i : Nat) (x : V) (H2 H3 : Hp) (a : α), as[i]? = some a → Same H H2 → Y i H2 x H3 → ∀ (Q' : VK) (P' : Hp → Prop), (keep a = true → ∀ H5, Same H2 H5 → Q' (out a) H5) → (keep a = false → ∀ H5, Same H2 H5 → P' H5) →
      g x (wipe σ vs) H3 fun σ2 H4 => wipe σ2 vs = wipe σ vs ∧ tt σ2 H4 fun b H5 => if b = true then te σ2 H5 Q' else P' H5)
    (hd : ∀ H2, H2 Dl = some (.lst ((as.filter keep).map out)) → Same H H2 → Qd H2) : LcR J g tt te vs σ H Dl Qd := by
  refine lr_it w (fun i H2 => H2 Dl = some (.lst (((as.take i).filter keep).map out)) ∧ Same H H2) ⟨upd_same, same_new nD⟩ (fun i H2 _ h => hG H2 h.2) (fun i x H2 H3 hi h hy => ?_) (fun H2 h => ?_)
  · obtain ⟨e2, s2⟩ := h
    have hi' : i < as.length := by omega
    have hv := List.getElem?_eq_getElem hi'
    have et : as.take (i + 1) = as.take i ++ [as[i]] := by
      rw [List.take_add_one, hv]
      rfl
    refine hs i x H2 H3 _ hv s2 hy (fun y H4 => ∃ acc, H4 Dl = some (.lst acc) ∧ acc.length < sizeLine ∧ ((upd H4 Dl (.lst (acc ++ [y]))) Dl = some (.lst (((as.take (i + 1)).filter keep).map out)) ∧ Same H (upd H4 Dl (.lst (acc ++ [y]))))) (fun H5 => H5 Dl = some (.lst (((as.take (i + 1)).filter keep).map out)) ∧ Same H H5) (fun k H5 s5 => ?_) (fun k H5 s5 => ?_)
    · refine ⟨_, s5 _ _ e2, ?_, ?_, same_mut (s2.trans s5) nD⟩
      · rw [List.length_map]
        have z := List.length_filter_le keep (as.take i)
        rw [List.length_take] at z
        exact Nat.lt_of_le_of_lt (by omega : _ ≤ 100000) (by decide)
      · rw [upd_same, et, List.filter_append, List.filter_cons_of_pos k, List.map_append]
        rfl
    · refine ⟨?_, s2.trans s5⟩
      rw [s5 _ _ e2, et, List.filter_append, List.filter_cons_of_neg (by rw [k]; decide)]
      simp
  · rw [← hn, List.take_length] at h
    exact hd H2 h.1 h.2
/-! ### names of a drawn yard -/
def NamesOk (vn : List Str) : Prop := vn.Nodup ∧ vn ≠ [] ∧ vn.length ≤ 6 ∧ ∀ x ∈ vn, isNameS x = true ∧ PyData.strOk x = true ∧ x.length ≤ 8 ∧ ∀ c ∈ x.cps.toList, c < 128 ∧ c ≠ 10 ∧ c ≠ 32
theorem dps_strs {K : PySem.W.Frag} {H : Hp} : ∀ ws : List Str, DpAll K H (sV ws) (ws.map PyData.str)
  | [] => .nil
  | w :: ws => .cons (.str w) (dps_strs ws)
theorem lay_strs : ∀ ws : List Str, (∀ w ∈ ws, PyData.strOk w = true) → PyData.canLayAll0 (ws.map PyData.str) = true
  | [], _ => by simp [PyData.canLayAll0]
  | w :: ws, h => by
    rw [List.map_cons]
    simp only [PyData.canLayAll0, PyData.canLay0, h w (List.mem_cons_self ..), lay_strs ws fun y hy => h y (List.mem_cons_of_mem _ hy), Bool.and_true]
theorem deep_strs : ∀ ws : List Str, PyData.depthAll (ws.map PyData.str) ≤ 5
  | [] => by simp [PyData.depthAll]
  | w :: ws => by
    have h2 := deep_strs ws
    rw [List.map_cons]
    simp only [PyData.depthAll, PyData.depth]
    omega
theorem shaped_strs (ws : List Str) (ok : ∀ w ∈ ws, PyData.strOk w = true) : SeqAt.shaped (.list (ws.map PyData.str)) = true := by
  have h2 := deep_strs ws
  have h3 : PyData.depth (.list (ws.map PyData.str)) ≤ 64 := by
    simp only [PyData.depth]
    omega
  have h1 : PyData.canLay0 (.list (ws.map PyData.str)) = true := by
    simp only [PyData.canLay0]
    exact lay_strs ws ok
  show (PyData.canLay0 (.list (ws.map PyData.str)) && decide (PyData.depth (.list (ws.map PyData.str)) ≤ 64)) = true
  rw [h1, decide_eq_true h3]
  rfl
theorem eqv_emptyL (ds : List PyData) : PyData.eqv (.list ds) (.list []) = decide (ds = []) := by
  cases ds with
  | nil => simp [PyData.eqv, PyData.eqvAll]
  | cons d r => simp [PyData.eqv, PyData.eqvAll]
def spDeedG (K : PySem.W.Frag) : Sp := fun vs H Q _ => ∃ p o d g n vn st sa, vs = [.ref p, .ref o, .ref d, .int g] ∧ OwnAt K (But H p) o vn st sa ∧ NamesOk vn ∧ (But H p) d = some (.dK (kvL vn (levAt vn st))) ∧ MInv vn st [] ∧ st.length ≠ 14 ∧ 1 ≤ g ∧ g ≤ 99 ∧ Pot H p n ∧ n + 10 ≤ 100000 ∧
  ∀ H' T ws m, Same (But H p) (But H' p) → Pot H' p (n + 10) → SqT K (But H' p) T (wv ws (some m)) → deedOk vn st [] ws (some m) = true → Q (.ref T) H'
theorem Pot.sameH {H H' : Hp} {p : Addr} {n : Int} (s : Same H H') (h : Pot H p n) : Pot H' p n := by
  obtain ⟨a, b, c, e, q⟩ := h
  exact ⟨a, b, c, s _ _ e, q⟩
theorem pot_neS {H : Hp} {p q : Addr} {n : Int} {L : List Str} (h : Pot H p n) (e : H q = some (.lst (sV L))) (l : 0 < L.length) : q ≠ p := fun z => by
  obtain ⟨a, b, c, e2, _⟩ := h
  rw [z, e2] at e
  cases L with
  | nil => exact absurd l (by decide)
  | cons x r =>
    have y := HO.lst.inj (Option.some.inj e)
    cases (List.cons.inj y).1
theorem i_neL {K : PySem.W.Frag} {σ : L2.St} {H : Hp} {Qb : Bool → Hp → Prop} {i : Nat} {l : Addr} {ws : List Str} (e : σ[i]? = some (some (.ref l))) (h : SqL K H l (sV ws)) (ok : ∀ w ∈ ws, PyData.strOk w = true) (q : ∀ H', Same H H' → Qb (!decide (ws = [])) H') :
    tTest (tOp (rNeD K) (tVar i) (tLst tNil)) σ H Qb := by
  refine i_test (i_op (i_var e (i_lst (i_nil ⟨by show 0 ≤ sizeLine; decide, fun pe ne => ⟨.list (ws.map PyData.str), .list [], .lst ((same_new ne).seq h) (dps_strs ws), .lst (SqL.of upd_same) .nil, shaped_strs ws ok, shaped_empty, _, rfl, ?_⟩⟩))))
  rw [eqv_emptyL]
  have z := q _ (same_new (o := .lst []) ne)
  cases ws with
  | nil => exact z
  | cons x r => exact z
theorem i_rep4 {K : PySem.W.Frag} {σ : L2.St} {H : Hp} {Q : VK} {w : Str} (q : ∀ p H', Same H H' → H' p = some (.lst (sV [w, w, w, w])) → Q (.ref p) H') : tOp rRep (tLst (tCons (tC (.str w)) tNil)) (tC (.int 4)) σ H Q := by
  refine i_op (i_lst (i_cons (i_c (i_nil ⟨by show 1 ≤ sizeLine; decide, fun p1 n1 => i_c ⟨p1, 4, [.str w], rfl, rfl, upd_same, by decide, by decide, by show 1 * 4 ≤ sizeLine; decide, fun p n => ?_⟩⟩))))
  exact q p _ ((same_new n1).trans (same_new n)) upd_same
/-- so many words more, where a list is not empty and something more holds -/
theorem i_more {K : PySem.W.Frag} {σ : L2.St} {H : Hp} {Q : VK} {ta : TE} {u : TT} {w : Str} {L fl : List Str} {i : Nat} {l : Addr} {C : Prop} (ei : σ[i]? = some (some (.ref l))) (hl : SqL K H l (sV fl)) (ok : ∀ w ∈ fl, PyData.strOk w = true) (hL : L.length ≤ 100)
    (ha : ∀ Q' : VK, (∀ p H', Same H H' → H' p = some (.lst (sV L)) → Q' (.ref p) H') → ta σ H Q') (hu : ∀ H', Same H H' → ∀ Qb : Bool → Hp → Prop, (∀ b H2, Same H' H2 → (b = true → C) → Qb b H2) → u σ H' Qb)
    (q : ∀ p H' L', Same H H' → H' p = some (.lst (sV L')) → (∀ x ∈ L', x ∈ L ∨ (x = w ∧ fl ≠ [] ∧ C)) → L.length ≤ L'.length → L'.length ≤ L.length + 4 → Q (.ref p) H') :
    tOp rCat ta (tIf (tAnd (tTest (tOp (rNeD K) (tVar i) (tLst tNil))) u) (tOp rRep (tLst (tCons (tC (.str w)) tNil)) (tC (.int 4))) (tLst tNil)) σ H Q := by
  have none : ∀ p H', Same H H' → H' p = some (.lst (sV L)) → tLst tNil σ H' fun y H2 => rCat (.ref p) y H2 Q := fun p H' s e => by
    refine i_lst (i_nil ⟨by show 0 ≤ sizeLine; decide, fun p2 n2 => ⟨p, p2, sV L, [], rfl, rfl, same_new n2 _ _ e, upd_same, ?_, fun p3 n3 => ?_⟩⟩)
    · rw [sV_len]
      exact Nat.le_trans (show L.length + 0 ≤ 100 by omega) (by decide)
    · refine q p3 _ L ((s.trans (same_new n2)).trans (same_new n3)) (by rw [upd_same, List.append_nil]) (fun x hx => .inl hx) (Nat.le_refl _) (by omega)
  refine i_op (ha _ fun p H1 s1 e1 => i_ifx (i_and (i_neL ei (s1.seq hl) ok fun H2 s2 => ?_)))
  by_cases m : fl = []
  · rw [decide_eq_true m]
    exact iteF (iteF (none p H2 (s1.trans s2) (s2 _ _ e1)))
  · rw [decide_eq_false m]
    refine iteT (hu H2 (s1.trans s2) _ fun b H3 s3 hb => ?_)
    cases b with
    | false => exact iteF (none p H3 ((s1.trans s2).trans s3) (s3 _ _ (s2 _ _ e1)))
    | true =>
      refine iteT (i_rep4 (K := K) fun p2 H4 s4 e4 => ⟨p, p2, sV L, _, rfl, rfl, s4 _ _ (s3 _ _ (s2 _ _ e1)), e4, ?_, fun p3 n3 => ?_⟩)
      · rw [sV_len]
        exact Nat.le_trans (show L.length + 4 ≤ 104 by omega) (by decide)
      · refine q p3 _ (L ++ [w, w, w, w]) ((((s1.trans s2).trans s3).trans s4).trans (same_new n3)) (by rw [upd_same]; unfold sV; rw [List.map_append]) (fun x hx => ?_) (by rw [List.length_append]; omega) (by rw [List.length_append]; exact Nat.le_refl _)
        rcases List.mem_append.mp hx with hx | hx
        · exact .inl hx
        · refine .inr ⟨?_, m, hb rfl⟩
          simpa using hx
theorem kv_level {vn : List Str} {st : List StepT} {x : Str} (h : x ∈ vn) : valV (kvL vn (levAt vn st)) (.inr x : Key) = some (.int ((levAt vn st).getD (vn.idxOf x) 0)) := kv_get levAt_len h
theorem deed_two {vn : List Str} {st : List StepT} {k x : Str} {m : Int} (hk : k = ("fill" : Str) ∨ k = ("dye" : Str)) (hx : x ∈ vn) (h14 : st.length ≠ 14) (m1 : 1 ≤ m) (m2 : m ≤ 99) : deedOk vn st [] [k, x] (some m) = true := by
  have h1 : stepB vn (some m) [k, x] = true := by
    show (([x].all fun x => decide (x ∈ vn)) && ((decide (1 ≤ m) && decide (m ≤ 99)) && decide (k ∈ (["fill", "dye", "draw"] : List Str)))) = true
    rw [decide_eq_true m1, decide_eq_true m2]
    rcases hk with rfl | rfl
    · simp [hx]
    · simp [hx]
  have h2 : k ≠ ("draw" : Str) := by
    rcases hk with rfl | rfl
    · decide +kernel
    · decide +kernel
  unfold deedOk lowOk
  rw [h1, takenS_2, if_neg h2, show isDrawW [k, x] = decide (k = ("draw" : Str)) from rfl, decide_eq_false h2, decide_eq_true h14]
  simp
theorem deed_draw {vn : List Str} {st : List StepT} {x : Str} {m : Int} (hx : x ∈ vn) (h14 : st.length ≠ 14) (h9 : (vn.length : Int) + ((drawnTo st st.length).length : Int) < 9) (m1 : 1 ≤ m) (m2 : m ≤ 99) (hl : m ≤ (levAt vn st).getD (vn.idxOf x) 0) : deedOk vn st [] ["draw", x] (some m) = true := by
  have h1 : stepB vn (some m) ["draw", x] = true := by
    show (([x].all fun x => decide (x ∈ vn)) && ((decide (1 ≤ m) && decide (m ≤ 99)) && decide (("draw" : Str) ∈ (["fill", "dye", "draw"] : List Str)))) = true
    rw [decide_eq_true m1, decide_eq_true m2]
    simp [hx]
  unfold deedOk lowOk
  rw [h1, takenS_2, if_pos rfl, decide_eq_true h14, decide_eq_false (show ¬ (vn.length : Int) + ((drawnTo st st.length).length : Int) = 9 by omega)]
  simp only [Option.getD_some, decide_eq_true hl, Bool.and_false, Bool.not_false, Bool.and_true, Bool.true_and]
  simp
theorem deed_pour {vn : List Str} {st : List StepT} {x y : Str} {m : Int} (hx : x ∈ vn) (hy : y ∈ vn) (ne : x ≠ y) (h14 : st.length ≠ 14) (m1 : 1 ≤ m) (m2 : m ≤ 99) (hl : m ≤ (levAt vn st).getD (vn.idxOf x) 0) : deedOk vn st [] ["pour", x, y] (some m) = true := by
  have h1 : stepB vn (some m) ["pour", x, y] = true := by
    show (([x, y].all fun x => decide (x ∈ vn)) && ((decide (1 ≤ m) && decide (m ≤ 99)) && (decide (("pour" : Str) = ("pour" : Str)) && decide (x ≠ y)))) = true
    rw [decide_eq_true m1, decide_eq_true m2, decide_eq_true ne]
    simp [hx, hy]
  have h2 : ¬ (("pour" : Str) = ("draw" : Str)) := by decide +kernel
  unfold deedOk lowOk
  rw [h1, show takenS [("pour" : Str), x, y] = some x from rfl, show isDrawW [("pour" : Str), x, y] = decide (("pour" : Str) = ("draw" : Str)) from rfl, decide_eq_false h2, decide_eq_true h14]
  simp only [Option.getD_some, decide_eq_true hl, Bool.false_and, Bool.not_false, Bool.and_true, Bool.true_and]
  simp
theorem other_of {vn : List Str} {x : Str} (nd : vn.Nodup) (h : 1 < vn.length) : 0 < (vn.filter fun y => decide (y ≠ x)).length := by
  match vn, nd, h with
  | a :: b :: r, nd, _ =>
    have ab : a ≠ b := fun z => (List.nodup_cons.mp nd).1 (by rw [z]; exact List.mem_cons_self ..)
    by_cases e : a = x
    · have hb : b ∈ ((a :: b :: r).filter fun y => decide (y ≠ x)) := List.mem_filter.mpr ⟨List.mem_cons_of_mem _ (List.mem_cons_self ..), decide_eq_true fun z => ab (e.trans z.symm)⟩
      exact List.length_pos_of_mem hb
    · have ha : a ∈ ((a :: b :: r).filter fun y => decide (y ≠ x)) := List.mem_filter.mpr ⟨List.mem_cons_self .., decide_eq_true e⟩
      exact List.length_pos_of_mem ha
/-- steps that were drawn one behind the other -/
inductive Grown (vn : List Str) : List StepT → Prop
  | nil : Grown vn []
  | snoc {st : List StepT} {ws : List Str} {m : Int} : Grown vn st → deedOk vn st [] ws (some m) = true → Grown vn (st ++ [(ws, some m)])
theorem Grown.minv {vn : List Str} {st : List StepT} (v6 : vn.length ≤ 6) (h : Grown vn st) : MInv vn st [] := by
  induction h with
  | nil => exact minv_nil v6
  | snoc _ d ih => exact minv_step ih d
def spOwnG (K : PySem.W.Frag) : Sp := fun vs H Q _ => ∃ p t fw u g n, vs = [.ref p, .int t, .int fw, .int u, .int g] ∧ 1 ≤ t ∧ t ≤ 6 ∧ 0 ≤ fw ∧ fw ≤ u ∧ u ≤ 14 ∧ 1 ≤ g ∧ g ≤ 99 ∧ Pot H p n ∧ n + 200 ≤ 100000 ∧
  ∀ H' po pn vn st, Same (But H p) (But H' p) → Pot H' p (n + 200) → OwnE K (But H' p) po pn vn st [] → NamesOk vn → Grown vn st → (st.length : Int) ≤ max u 3 → Q (.ref po) H'
theorem pot_neD {H : Hp} {p q : Addr} {n : Int} {kvs : List (Key × V)} (h : Pot H p n) (e : H q = some (.dK kvs)) : q ≠ p := fun z => by
  obtain ⟨a, b, c, e2, _⟩ := h
  rw [z, e2] at e
  cases e
end Er
set_option Elab.async false
set_option linter.all false
set_option maxRecDepth 100000
set_option maxHeartbeats 4000000
/-! A drawn yard that grows. -/
namespace Er
open PySem PySem.Spec PyProof.Rows L2
theorem cut_nx {c : TT} {t u : TS} {D : Ends} {σ : L2.St} {H : Hp} (R : L2.St → Hp → Prop) (rest : ∀ σ' H', R σ' H' → u D σ' H') (go : ∀ N : L2.St → Hp → Prop, (∀ σ' H', R σ' H' → N σ' H') → c σ H fun b H1 => if b = true then t { D with nx := N } σ H1 else N σ H1) : tSeq (tIfS c t tNext) u D σ H := i_if0 (go _ rest)
def drawPool : List Str := ["a", "b", "c", "d", "fill", "dye", "pour", "draw", "by", "in", "is", "zzzzzzzz"]
theorem draw_nd : drawPool.Nodup := by decide +kernel
theorem draw_ok : ∀ x ∈ drawPool, isNameS x = true ∧ PyData.strOk x = true ∧ x.length ≤ 8 ∧ ∀ c ∈ x.cps.toList, c < 128 ∧ c ≠ 10 ∧ c ≠ 32 := by decide +kernel
theorem Pot.off {H : Hp} {p q : Addr} {n : Int} {o : HO} (h : Pot H p n) (ne : q ≠ p) : Pot (upd H q o) p n := by
  obtain ⟨a, b, c, e, r⟩ := h
  exact ⟨a, b, c, (upd_ne (Ne.symm ne)).trans e, r⟩
theorem but_upd2 {H : Hp} {p q : Addr} {o : HO} (ne : q ≠ p) : But (upd H q o) p = upd (But H p) q o := by
  funext b
  by_cases e : b = p
  · rw [e, upd_ne (Ne.symm ne)]
    exact del_same.trans del_same.symm
  · show del (upd H q o) p b = upd (del H p) q o b
    rw [del_ne e]
    by_cases e2 : b = q
    · rw [e2, upd_same, upd_same]
    · rw [upd_ne e2, upd_ne e2, del_ne e]
theorem but_ne {H : Hp} {p q : Addr} {o : HO} (e : But H p q = some o) : q ≠ p := fun z => by
  rw [z] at e
  exact absurd (del_same.symm.trans e) (fun y => nomatch y)
def OS (K : PySem.W.Frag) (H0 H : Hp) (p po pn b c : Addr) (vn : List Str) (us : List V) (st : List StepT) : Prop := b ≠ c ∧ H0 b = none ∧ Same (But H0 p) (But H p) ∧ But H p po = some (.dK (ownKV pn b c)) ∧ But H p pn = some (.lst (sV vn)) ∧ But H p b = some (.lst us) ∧ StepsAt K (But H p) us st ∧ But H p c = some (.lst []) ∧ Grown vn st
section
variable {K : PySem.W.Frag} {H0 H H' : Hp} {p po pn b c b2 : Addr} {vn : List Str} {us us2 : List V} {st st2 : List StepT}
theorem OS.on (h : OS K H0 H p po pn b c vn us st) (s : Same (But H p) (But H' p)) : OS K H0 H' p po pn b c vn us st := by
  obtain ⟨h1, h2, h3, h4, h5, h6, h7, h8, h9⟩ := h
  exact ⟨h1, h2, h3.trans s, s _ _ h4, s _ _ h5, s _ _ h6, h7.same s, s _ _ h8, h9⟩
theorem OS.ownE (h : OS K H0 H p po pn b c vn us st) : OwnE K (But H p) po pn vn st [] := by
  obtain ⟨h1, h2, h3, h4, h5, h6, h7, h8, h9⟩ := h
  exact ⟨b, c, us, [], h4, h5, h6, h7, h8, .nil⟩
theorem OS.put (h : OS K H0 H p po pn b c vn us st) (n0 : H0 po = none) (hb : H0 b2 = none) (hp : H0 p ≠ none) (e : But H p b2 = some (.lst us2)) (s2 : StepsAt K (But H p) us2 st2) (m : Grown vn st2) (ne : b2 ≠ c) : OS K H0 (upd H po (.dK (ownKV pn b2 c))) p po pn b2 c vn us2 st2 := by
  obtain ⟨h1, h2, h3, h4, h5, h6, h7, h8, h9⟩ := h
  have npo := but_ne h4
  have br : Bar po (But H p) (But (upd H po (.dK (ownKV pn b2 c))) p) := by
    rw [but_upd2 npo]
    exact Bar.put (Same.refl _)
  refine ⟨ne, hb, but_mut n0 hp h3, (del_ne npo).trans upd_same, br.lst h4 h5, br.lst h4 e, s2.keep (br.keep h4), br.lst h4 h8, m⟩
theorem OS.app {T : Addr} {ws : List Str} {m : Int} (h : OS K H0 H p po pn b c vn us st) (hp : H0 p ≠ none) (vne : vn ≠ []) (e : SqT K (But H p) T (wv ws (some m))) (ok : deedOk vn st [] ws (some m) = true) : OS K H0 (upd H b (.lst (us ++ [.ref T]))) p po pn b c vn (us ++ [.ref T]) (st ++ [(ws, some m)]) := by
  obtain ⟨h1, h2, h3, h4, h5, h6, h7, h8, h9⟩ := h
  have nb := but_ne h6
  have k : KeepT K (But H p) (But (upd H b (.lst (us ++ [.ref T]))) p) := by
    rw [but_upd2 nb]
    exact KeepT.put h6
  have off : ∀ x o, x ≠ b → But H p x = some o → But (upd H b (.lst (us ++ [.ref T]))) p x = some o := fun x o ne e => by
    rw [but_upd2 nb, upd_ne ne]
    exact e
  refine ⟨h1, h2, but_mut h2 hp h3, off _ _ (fun z => ?_) h4, off _ _ (fun z => ?_) h5, (del_ne nb).trans upd_same, (h7.keep k).snoc (k _ _ e), off _ _ (Ne.symm h1) h8, h9.snoc ok⟩
  · rw [z, h6] at h4
    cases h4
  · rw [z, h6] at h5
    have y := HO.lst.inj (Option.some.inj h5)
    cases vn with
    | nil => exact vne rfl
    | cons x r =>
      cases st with
      | nil =>
        have z2 := h7.1
        rw [y] at z2
        cases z2
      | cons s q =>
        obtain ⟨r0, hr, _⟩ := h7.2 0 s rfl
        rw [y] at hr
        cases hr
end
end Er
set_option Elab.async false
set_option linter.all false
set_option maxRecDepth 100000
set_option maxHeartbeats 4000000
/-! The last defs of a law whose tables grow. -/
namespace Er
open PySem PySem.Spec PyProof.Rows L2 LamX
/-- all but the tables and p stays -/
def ExtP (p : Addr) (H H' : Hp) : Prop := ∀ b o, b ≠ p → H b = some o → (∀ ps, o ≠ .tbl ps) → H' b = some o
theorem tabs_off {T : List (Addr × Str)} {H H' : Hp} {p : Addr} {xs : List V} (t : Tabs T H) (e : H p = some (.lst xs)) (s : ∀ b o, b ≠ p → H b = some o → H' b = some o) : Tabs T H' := fun q hq => by
  obtain ⟨ps, h1, h2, h3⟩ := t q hq
  refine ⟨ps, s _ _ (fun z => by rw [z, e] at h1; cases h1) h1, h2, fun pos cv hc => ?_⟩
  obtain ⟨c, e1, e2⟩ := h3 pos cv hc
  exact ⟨c, e1, s _ _ (fun z => by
    rw [z, e] at e2
    unfold CodeO at e2
    cases e2) e2⟩
theorem ext_mut {H H' : Hp} {p : Addr} {o : HO} (e : ExtN H H') (n : H p = none) : ExtN H (upd H' p o) := fun b u hb ht => by
  rw [upd_ne (ne_of_none hb n)]
  exact e b u hb ht
theorem ext_sqL {K : PySem.W.Frag} {H H' : Hp} {a : Addr} {xs : List V} (e : ExtN H H') (h : SqL K H a xs) : SqL K H' a xs := by
  rcases h with (h | ⟨o, h⟩) | h
  · exact .inl (.inl (e _ _ h fun ps z => nomatch z))
  · exact .inl (.inr ⟨o, e _ _ h fun ps z => nomatch z⟩)
  · exact .inr h
theorem pot_at {H : Hp} {p : Addr} {n : Int} (h : Pot H p n) : ∃ xs, H p = some (.lst xs) := by
  obtain ⟨a, b, c, h1, _⟩ := h
  exact ⟨_, h1⟩
def spRight3 (K : PySem.W.Frag) (T : List (Addr × Str)) : Sp := fun vs H Q _ => ∃ p, vs = [.ref p] ∧ Pot H p 0 ∧ Tabs T H ∧ ∀ H', ExtP p H H' → Tabs T H' → Q (.bl true) H'
def spLaw3 (K : PySem.W.Frag) (T : List (Addr × Str)) : Sp := fun vs H Q _ => ∃ (a : Addr) (ns : List Int), vs = [.ref a] ∧ SqL K H a (ns.map V.int) ∧ ns.length ≤ 63 ∧ Tabs T H ∧ ∀ H', Q (.bl true) H'
end Er
set_option Elab.async false
set_option linter.all false
set_option maxRecDepth 100000
set_option maxHeartbeats 4000000
/-! Any text with short lines is read line by line. -/
namespace Er
open PySem PySem.Spec PyProof.Rows L2 TL
def mkS (l : List Nat) : Str := { cps := l.toArray }
theorem tl_mk (l : List Nat) : tl (mkS l) = l := rfl
theorem mk_tl (x : Str) : mkS (tl x) = x := by
  cases x
  simp [mkS]
theorem mkS_len (l : List Nat) : (mkS l).length = l.length := by
  show (l.toArray).size = l.length
  simp
theorem tl_len (x : Str) : (tl x).length = x.length := Array.length_toList
/-- a list of signs, cut at s -/
def cutL (s : Nat) : List Nat → List (List Nat)
  | [] => [[]]
  | c :: cs => if c = s then [] :: cutL s cs else match cutL s cs with
    | [] => [[c]]
    | p :: ps => (c :: p) :: ps
theorem cutL_ne (s : Nat) : ∀ cs, cutL s cs ≠ []
  | [] => fun z => nomatch z
  | c :: cs => by
    unfold cutL
    split
    · exact fun z => nomatch z
    · split
      · exact fun z => nomatch z
      · exact fun z => nomatch z
theorem cutL_hit (s : Nat) (cs : List Nat) : cutL s (s :: cs) = [] :: cutL s cs := by
  rw [cutL, if_pos rfl]
theorem cutL_step {s c : Nat} (h : c ≠ s) {cs : List Nat} {p : List Nat} {ps : List (List Nat)} (e : cutL s cs = p :: ps) : cutL s (c :: cs) = (c :: p) :: ps := by
  rw [cutL, if_neg h, e]
theorem cutL_no (s : Nat) : ∀ cs, ∀ p ∈ cutL s cs, s ∉ p
  | [] => fun p hp => by
    rw [List.mem_singleton.mp hp]
    exact List.not_mem_nil
  | c :: cs => fun p hp => by
    by_cases h : c = s
    · rw [h, cutL_hit] at hp
      rcases List.mem_cons.mp hp with rfl | hp
      · exact List.not_mem_nil
      · exact cutL_no s cs p hp
    · obtain ⟨q, qs, e⟩ := List.exists_cons_of_ne_nil (cutL_ne s cs)
      rw [cutL_step h e] at hp
      have ih := cutL_no s cs
      rw [e] at ih
      rcases List.mem_cons.mp hp with rfl | hp
      · intro z
        rcases List.mem_cons.mp z with z | z
        · exact h z.symm
        · exact ih q (List.mem_cons_self ..) z
      · exact ih p (List.mem_cons_of_mem _ hp)
theorem cutL_join (s : Nat) : ∀ cs, joinL [s] (cutL s cs) = cs
  | [] => rfl
  | c :: cs => by
    have ih := cutL_join s cs
    obtain ⟨q, qs, e⟩ := List.exists_cons_of_ne_nil (cutL_ne s cs)
    rw [e] at ih
    by_cases h : c = s
    · rw [h, cutL_hit, e]
      show [] ++ ([s] ++ joinL [s] (q :: qs)) = _
      rw [ih]
      rfl
    · rw [cutL_step h e]
      cases qs with
      | nil =>
        have z : q = cs := ih
        show c :: q = _
        rw [z]
      | cons r rs =>
        have z : q ++ ([s] ++ joinL [s] (r :: rs)) = cs := ih
        show (c :: q) ++ ([s] ++ joinL [s] (r :: rs)) = _
        rw [List.cons_append, z]
theorem cutL_sub (s : Nat) : ∀ cs, ∀ p ∈ cutL s cs, (∀ c ∈ p, c ∈ cs) ∧ p.length ≤ cs.length
  | [] => fun p hp => by
    rw [List.mem_singleton.mp hp]
    exact ⟨fun c hc => (nomatch hc), Nat.le_refl _⟩
  | c :: cs => fun p hp => by
    have ih := cutL_sub s cs
    by_cases h : c = s
    · rw [h, cutL_hit] at hp
      rcases List.mem_cons.mp hp with rfl | hp
      · exact ⟨fun c hc => (nomatch hc), Nat.zero_le _⟩
      · obtain ⟨h1, h2⟩ := ih p hp
        exact ⟨fun x hx => List.mem_cons_of_mem _ (h1 x hx), Nat.le_succ_of_le h2⟩
    · obtain ⟨q, qs, e⟩ := List.exists_cons_of_ne_nil (cutL_ne s cs)
      rw [cutL_step h e] at hp
      rw [e] at ih
      rcases List.mem_cons.mp hp with rfl | hp
      · obtain ⟨h1, h2⟩ := ih q (List.mem_cons_self ..)
        refine ⟨fun x hx => ?_, Nat.succ_le_succ h2⟩
        rcases List.mem_cons.mp hx with rfl | hx
        · exact List.mem_cons_self ..
        · exact List.mem_cons_of_mem _ (h1 x hx)
      · obtain ⟨h1, h2⟩ := ih p (List.mem_cons_of_mem _ hp)
        exact ⟨fun x hx => List.mem_cons_of_mem _ (h1 x hx), Nat.le_succ_of_le h2⟩
theorem cutL_count (s : Nat) : ∀ cs, (cutL s cs).length ≤ cs.length + 1
  | [] => Nat.le_refl _
  | c :: cs => by
    have ih := cutL_count s cs
    by_cases h : c = s
    · rw [h, cutL_hit, List.length_cons, List.length_cons]
      omega
    · obtain ⟨q, qs, e⟩ := List.exists_cons_of_ne_nil (cutL_ne s cs)
      rw [cutL_step h e]
      rw [e] at ih
      simp only [List.length_cons] at ih ⊢
      omega
theorem split_cut {y : Str} {s : Nat} (hy : tl y = [s]) (hs : (y.cps.all fun x => decide (x < 256)) = true) (x : Str) : Txt.split x y = (cutL s (tl x)).map mkS := by
  have e : Txt.join y ((cutL s (tl x)).map mkS) = x := by
    rw [← mk_tl x, join_eq, ← mk_tl (y.join _), tl_join, List.map_map, hy]
    rw [show (tl ∘ mkS) = id from funext tl_mk, List.map_id, tl_mk, cutL_join]
  have z := split_join (y := y) (s := s) (S := []) hy hs (parts := (cutL s (tl x)).map mkS) (fun z => cutL_ne s (tl x) (List.map_eq_nil_iff.mp z)) fun p hp => by
    obtain ⟨q, hq, rfl⟩ := List.mem_map.mp hp
    exact cutL_no s _ q hq
  rw [e] at z
  exact z
theorem split_nl (x : Str) : Txt.split x "\n" = (cutL 10 (tl x)).map mkS := split_cut (by decide +kernel) (by decide +kernel) x
theorem split_sp (x : Str) : Txt.split x " " = (cutL 32 (tl x)).map mkS := split_cut (by decide +kernel) (by decide +kernel) x
/-- plain signs; so many lines, none longer -/
structure TextOk (N M : Nat) (x : Str) : Prop where
  asc : ∀ c ∈ tl x, c < 128
  many : (cutL 10 (tl x)).length ≤ M
  long : ∀ p ∈ cutL 10 (tl x), p.length ≤ N
theorem strOk_of {x : Str} (h : ∀ c ∈ tl x, c < 128) : PyData.strOk x = true := by
  show (x.cps.all fun c => decide (c < 1114112)) = true
  rw [Array.all_eq_true']
  intro c hc
  exact decide_eq_true (Nat.lt_trans (h c (Array.mem_toList_iff.mpr hc)) (by decide))
/-- the words of a line -/
def wordsOf (l : List Nat) : List Str := (cutL 32 l).map mkS
def lwCut (l : List Nat) : LW := ((wordsOf l).dropLast, (wordsOf l).getLastD "")
theorem line_cut {l : List Nat} (h : l.length ≤ 500) (ha : ∀ c ∈ l, c < 128) : LineW (mkS l) (lwCut l).1 (lwCut l).2 ∧ WOk (lwCut l).1 := by
  have ne : wordsOf l ≠ [] := fun z => cutL_ne 32 l (List.map_eq_nil_iff.mp z)
  have e : (lwCut l).1 ++ [(lwCut l).2] = wordsOf l := by
    unfold lwCut
    rw [List.getLastD_eq_getLast?, List.getLast?_eq_some_getLast ne]
    exact List.dropLast_concat_getLast ne
  have all : ∀ w ∈ (lwCut l).1 ++ [(lwCut l).2], w.length ≤ 500 ∧ PyData.strOk w = true := fun w hw => by
    rw [e] at hw
    obtain ⟨p, hp, rfl⟩ := List.mem_map.mp hw
    obtain ⟨h1, h2⟩ := cutL_sub 32 l p hp
    refine ⟨by rw [mkS_len]; omega, strOk_of fun c hc => ha c (h1 c hc)⟩
  have cnt : (wordsOf l).length ≤ 501 := by
    have z := cutL_count 32 l
    unfold wordsOf
    rw [List.length_map]
    omega
  have cnt2 : (lwCut l).1.length ≤ 501 := by
    have z := congrArg List.length e
    rw [List.length_append] at z
    omega
  refine ⟨⟨?_, ?_, (all _ (List.mem_append_right _ (List.mem_singleton.mpr rfl))).1, by omega, fun w hw => (all w (List.mem_append_left _ hw)).1⟩, fun w hw => (all w (List.mem_append_left _ hw)).2⟩
  · rw [e, split_sp, tl_mk]
    rfl
  · rw [mkS_len]
    omega
theorem paired_map {α β γ : Type} {R : α → β → Prop} (f : γ → α) (g : γ → β) : ∀ l : List γ, (∀ x ∈ l, R (f x) (g x)) → Paired R (l.map f) (l.map g)
  | [], _ => .nil
  | x :: l, h => .cons (h x (List.mem_cons_self ..)) (paired_map f g l fun y hy => h y (List.mem_cons_of_mem _ hy))
theorem textW_of {x : Str} {N M : Nat} (h : TextOk N M x) (hN : N ≤ 500) (hM : M ≤ 1000) (hx : x.length ≤ 100000) : ∃ k ns L, TextW x k ns L := by
  obtain ⟨l0, ls, e⟩ := List.exists_cons_of_ne_nil (cutL_ne 10 (tl x))
  obtain ⟨ha, hm, hl⟩ := h
  have mem : ∀ p ∈ l0 :: ls, p.length ≤ 500 ∧ ∀ c ∈ p, c < 128 := fun p hp => by
    rw [← e] at hp
    exact ⟨Nat.le_trans (hl p hp) hN, fun c hc => ha c ((cutL_sub 10 _ p hp).1 c hc)⟩
  obtain ⟨k, ns, e2⟩ := List.exists_cons_of_ne_nil (cutL_ne 32 l0)
  have m0 := mem l0 (List.mem_cons_self ..)
  have cnt0 := cutL_count 32 l0
  rw [e2] at cnt0
  rw [e] at hm
  simp only [List.length_cons] at hm cnt0
  refine ⟨mkS k, ns.map mkS, ls.map lwCut, mkS l0, ls.map mkS, ?_, hx, ?_, ?_, ?_, ?_, fun w hw => ?_, paired_map mkS lwCut ls fun l hl2 => (line_cut (mem l (List.mem_cons_of_mem _ hl2)).1 (mem l (List.mem_cons_of_mem _ hl2)).2).1, fun w hw => ?_⟩
  · rw [split_nl, e]
    rfl
  · rw [List.length_map]
    omega
  · rw [split_sp, tl_mk, e2]
    rfl
  · rw [mkS_len]
    omega
  · rw [List.length_map]
    omega
  · obtain ⟨p, hp, rfl⟩ := List.mem_map.mp hw
    rw [mkS_len]
    have z := (cutL_sub 32 l0 p (by rw [e2]; exact List.mem_cons_of_mem _ hp)).2
    omega
  · obtain ⟨l, hl2, rfl⟩ := List.mem_map.mp hw
    exact (line_cut (mem l (List.mem_cons_of_mem _ hl2)).1 (mem l (List.mem_cons_of_mem _ hl2)).2).2
end Er
set_option Elab.async false
set_option linter.all false
set_option maxRecDepth 100000
set_option maxHeartbeats 4000000
/-! The rows of a drawn yard's text. -/
namespace Er
open PySem PySem.Spec PyProof.Rows L2 TL
def numS (n : Int) : Str := Str.ofString (toString n)
theorem num_ok {n : Int} (h0 : 0 ≤ n) (h1 : n ≤ 9999) : (numS n).length ≤ 4 ∧ (∀ c ∈ tl (numS n), 48 ≤ c ∧ c ≤ 57) ∧ n.natAbs.log2 < 1920 := by
  obtain ⟨m, rfl⟩ : ∃ m : Nat, n = (m : Int) := ⟨n.toNat, by omega⟩
  have e : tl (numS (m : Int)) = (Nat.toDigits 10 m).map Char.toNat := tl_num m
  refine ⟨?_, fun c hc => ?_, ?_⟩
  · rw [← tl_len, e, List.length_map]
    exact (Nat.length_toDigits_le_iff (by decide) (by decide)).mpr (by omega)
  · rw [e] at hc
    obtain ⟨d, hd, rfl⟩ := List.mem_map.mp hc
    have z := Nat.isDigit_of_mem_toDigits (by decide) (by decide) hd
    unfold Char.isDigit at z
    simp only [Bool.and_eq_true, decide_eq_true_eq] at z
    exact ⟨UInt32.le_iff_toNat_le.mp z.1, UInt32.le_iff_toNat_le.mp z.2⟩
  · have c : ((m : Int)).natAbs < 2 ^ 14 := by
      show ((m : Int)).natAbs < 16384
      omega
    by_cases e : ((m : Int)).natAbs = 0
    · rw [e]
      decide
    · exact Nat.lt_trans ((Nat.log2_lt e).mpr c) (by decide)
def stepRow (ws : List Str) (n : Int) : Str := Txt.join " " (ws ++ [numS n])
def sampRow : SampT → Str
  | some (k, o1, ws, o2) => k ++ " " ++ numS (o1.getD 0) ++ " " ++ stepRow ws (o2.getD 0)
  | none => ""
def yRows (vn : List Str) (st : List StepT) (sa : List SampT) : List Str := Txt.join " " ("vessels" :: vn) :: (st.map (fun s => stepRow s.1 (s.2.getD 0)) ++ sa.map sampRow)
def spSpotText (K : PySem.W.Frag) : Sp := fun vs H Q _ => ∃ p ws n, vs = [.ref p] ∧ SqT K H p (wv ws (some n)) ∧ ws.length ≤ 10 ∧ (∀ w ∈ ws, w.length ≤ 100) ∧ 0 ≤ n ∧ n ≤ 9999 ∧ ∀ H', Same H H' → Q (.str (stepRow ws n)) H'
def spText (K : PySem.W.Frag) : Sp := fun vs H Q _ => ∃ o pn vn st sa, vs = [.ref o] ∧ OwnE K H o pn vn st sa ∧ NamesOk vn ∧ (∀ s ∈ st, stepB vn s.2 s.1 = true) ∧ st.length ≤ 14 ∧ (∀ z ∈ sa, sampB vn (st.length : Nat) z = true) ∧ sa.length ≤ 6 ∧ ∀ H', Same H H' → Q (.str (Txt.join "\n" (yRows vn st sa))) H'
def rJoinK (K : PySem.W.Frag) : V → List V → Hp → VK → Prop := fun x xs H Q => ∃ a p, ∃ ys : List Str, x = .str a ∧ xs = [.ref p] ∧ (SqL K H p (ys.map V.str) ∨ SqT K H p (ys.map V.str)) ∧ (ys.map (·.length)).sum + ys.length * a.length ≤ 16777216 ∧ Q (.str (Txt.join a ys)) H
def rListK (K : PySem.W.Frag) : List V → Hp → VK → Prop := fun xs H Q => ∃ p ys, xs = [.ref p] ∧ (SqL K H p ys ∨ SqT K H p ys) ∧ ∀ l, H l = none → Q (.ref l) (upd H l (.lst ys))
def rStrK : List V → Hp → VK → Prop := fun xs H Q => ∃ i : Int, xs = [.int i] ∧ i.natAbs.log2 < 1920 ∧ Q (.str (Str.ofString (toString i))) H
def teRow (K : PySem.W.Frag) (i : Nat) : TE := tM1 (rJoinK K) (tC (.str " ")) (tOp rCat (tCB (rListK K) (tCons (tSl (rSlT K) (tVar i) tNoPart (tPart (tUn (rU fun i => .int (-i)) (tC (.int 1))))) tNil)) (tLst (tCons (tCB rStrK (tCons (tOp (rIxT K) (tVar i) (tUn (rU fun i => .int (-i)) (tC (.int 1)))) tNil)) tNil)))
theorem cut_part (a : V) (xs : List V) : ¬ (HT.sIx (xs ++ [a]).length 0 none = 0 ∧ HT.sIx (xs ++ [a]).length (xs ++ [a]).length (some (-1)) = (xs ++ [a]).length) := fun z => by
  have z2 := z.2
  rw [List.length_append, show [a].length = 1 from rfl, six_last] at z2
  omega
theorem i_row {K : PySem.W.Frag} {σ : L2.St} {H : Hp} {Q : VK} {i : Nat} {p : Addr} {ws : List Str} {n : Int} (e : σ[i]? = some (some (.ref p))) (hp : SqT K H p (wv ws (some n))) (h1 : ws.length ≤ 10) (h2 : ∀ w ∈ ws, w.length ≤ 100) (n0 : 0 ≤ n) (n1 : n ≤ 9999) (q : ∀ H', Same H H' → Q (.str (stepRow ws n)) H') : teRow K i σ H Q := by
  obtain ⟨k1, k2, k3⟩ := num_ok n0 n1
  have lws : (sV ws).length = ws.length := sV_len ws
  refine ⟨⟨_, rfl⟩, i_op (i_cb (i_cons ⟨_, e, 1, rfl, -1, rfl, p, _, rfl, hp, cut_part _ _, fun pt npt => ?_⟩))⟩
  have s1 := same_new (o := .tup (cutV (wv ws (some n)) none (some (-1)))) npt
  refine i_nil ⟨pt, _, rfl, .inr (SqT.of upd_same), fun pl npl => ?_⟩
  have ec : cutV (wv ws (some n)) none (some (-1)) = sV ws := cut_init _ _
  rw [ec] at s1 npl ⊢
  have s2 := s1.trans (same_new (o := .lst (sV ws)) npl)
  have el : (upd (upd H pt (.tup (sV ws))) pl (.lst (sV ws))) pl = some (.lst (sV ws)) := upd_same
  generalize upd (upd H pt (.tup (sV ws))) pl (.lst (sV ws)) = H2 at s2 el ⊢
  refine i_lst (i_cons (i_cb (i_cons ⟨_, e, 1, rfl, r_ixT (sameT s2 hp) (at_last _ _) ?_⟩)))
  refine i_nil ⟨n, rfl, k3, ?_⟩
  refine i_nil ⟨by show 1 ≤ sizeLine; decide, fun p2 n2 => ⟨pl, p2, sV ws, [.str (numS n)], rfl, rfl, same_new n2 _ _ el, upd_same, ?_, fun p3 n3 => ⟨(" " : Str), p3, ws ++ [numS n], rfl, rfl, .inl (SqL.of ?_), ?_, ?_⟩⟩⟩
  · rw [lws]
    exact Nat.le_trans (show ws.length + 1 ≤ 11 by omega) (by decide)
  · rw [upd_same, List.map_append]
    rfl
  · have z := sum_le (fun w : Str => w.length) 100 (ws ++ [numS n]) (fun w hw => by
      rcases List.mem_append.mp hw with hw | hw
      · exact h2 w hw
      · rw [List.mem_singleton.mp hw]
        omega)
    have z2 : (ws ++ [numS n]).length ≤ 11 := by
      rw [List.length_append, List.length_singleton]
      omega
    rw [show (" " : Str).length = 1 by decide +kernel]
    show (List.map (fun w : Str => w.length) _).sum + _ * 1 ≤ _
    omega
  · exact q _ ((s2.trans (same_new n2)).trans (same_new n3))
theorem app_len (a b : Str) : (a ++ b).length = a.length + b.length := by
  rw [← tl_len, tl_append, List.length_append, tl_len, tl_len]
/-- a row: plain signs, no line feed, so long at most -/
def RowB (n : Nat) (r : Str) : Prop := r.length ≤ n ∧ ∀ c ∈ tl r, c < 128 ∧ c ≠ 10
theorem RowB.up {n m : Nat} {r : Str} (h : RowB n r) (l : n ≤ m) : RowB m r := ⟨Nat.le_trans h.1 l, h.2⟩
theorem RowB.app {n m : Nat} {r q : Str} (h : RowB n r) (k : RowB m q) : RowB (n + m) (r ++ q) := by
  refine ⟨by rw [app_len]; exact Nat.add_le_add h.1 k.1, fun c hc => ?_⟩
  rw [tl_append] at hc
  rcases List.mem_append.mp hc with hc | hc
  · exact h.2 c hc
  · exact k.2 c hc
theorem RowB.join {n : Nat} {ws : List Str} (h : ∀ w ∈ ws, RowB n w) : RowB (ws.length * n + ws.length) (Txt.join " " ws) := by
  refine ⟨join_len (fun w hw => (h w hw).1) (by decide +kernel), fun c hc => ?_⟩
  rw [join_eq, tl_join] at hc
  rcases mem_joinL hc with hc | ⟨p, h1, h2⟩
  · have e : tl (" " : Str) = [32] := by decide +kernel
    rw [e] at hc
    rw [List.mem_singleton.mp hc]
    decide
  · obtain ⟨w, h3, rfl⟩ := List.mem_map.mp h1
    exact (h w h3).2 c h2
theorem rowB_num {n : Int} (h0 : 0 ≤ n) (h1 : n ≤ 9999) : RowB 4 (numS n) := by
  obtain ⟨k1, k2, _⟩ := num_ok h0 h1
  exact ⟨k1, fun c hc => by have := k2 c hc; omega⟩
theorem rowB_name {vn : List Str} (h : NamesOk vn) {x : Str} (hx : x ∈ vn) : RowB 8 x := ⟨(h.2.2.2 x hx).2.2.1, fun c hc => ⟨((h.2.2.2 x hx).2.2.2 c hc).1, ((h.2.2.2 x hx).2.2.2 c hc).2.1⟩⟩
def rowBb (n : Nat) (r : Str) : Bool := decide (r.length ≤ n) && (tl r).all fun c => decide (c < 128) && decide (c ≠ 10)
theorem rowB_of {n : Nat} {r : Str} (h : rowBb n r = true) : RowB n r := by
  unfold rowBb at h
  simp only [Bool.and_eq_true, decide_eq_true_eq, List.all_eq_true] at h
  exact ⟨h.1, h.2⟩
theorem step_words {vn ws : List Str} {o : Option Int} (hV : NamesOk vn) (h : stepB vn o ws = true) : ws.length ≤ 3 ∧ (∀ w ∈ ws, RowB 8 w) ∧ ∃ m : Int, o = some m ∧ 1 ≤ m ∧ m ≤ 99 := by
  obtain ⟨hm, hc⟩ := step_cases h
  have k1 : RowB 8 "fill" := rowB_of (by decide +kernel)
  have k2 : RowB 8 "dye" := rowB_of (by decide +kernel)
  have k3 : RowB 8 "draw" := rowB_of (by decide +kernel)
  have k4 : RowB 8 "pour" := rowB_of (by decide +kernel)
  refine ⟨?_, ?_, hm⟩
  · rcases hc with ⟨a, _, rfl | rfl | rfl⟩ | ⟨a, b, _, _, _, rfl⟩ <;> simp
  · rcases hc with ⟨a, ha, rfl | rfl | rfl⟩ | ⟨a, b, ha, hb, _, rfl⟩
    · intro w hw
      simp only [List.mem_cons, List.not_mem_nil, or_false] at hw
      rcases hw with rfl | rfl
      · exact k1
      · exact rowB_name hV ha
    · intro w hw
      simp only [List.mem_cons, List.not_mem_nil, or_false] at hw
      rcases hw with rfl | rfl
      · exact k2
      · exact rowB_name hV ha
    · intro w hw
      simp only [List.mem_cons, List.not_mem_nil, or_false] at hw
      rcases hw with rfl | rfl
      · exact k3
      · exact rowB_name hV ha
    · intro w hw
      simp only [List.mem_cons, List.not_mem_nil, or_false] at hw
      rcases hw with rfl | rfl | rfl
      · exact k4
      · exact rowB_name hV ha
      · exact rowB_name hV hb
theorem inO_get {o : Option Int} {lo hi : Int} (h : inO o lo hi = true) : ∃ n : Int, o = some n ∧ lo ≤ n ∧ n ≤ hi := by
  cases o with
  | none => cases h
  | some n =>
    have z : (decide (lo ≤ n) && decide (n ≤ hi)) = true := h
    simp only [Bool.and_eq_true, decide_eq_true_eq] at z
    exact ⟨n, rfl, z.1, z.2⟩
theorem samp_words {vn : List Str} {many : Nat} {z : SampT} (hV : NamesOk vn) (hm : many ≤ 14) (h : sampB vn (many : Nat) z = true) : ∃ k n ws m, z = some (k, some n, ws, some m) ∧ RowB 5 k ∧ 0 ≤ n ∧ n ≤ 9999 ∧ ws.length ≤ 2 ∧ (∀ w ∈ ws, RowB 8 w) ∧ 0 ≤ m ∧ m ≤ 14 := by
  rcases z with _ | ⟨k, o1, ws, o2⟩
  · cases h
  · have h2 : (decide (k ∈ (["is", "least", "most"] : List Str)) && (inO o1 0 9999 && spotB vn (many : Nat) o2 ws)) = true := h
    simp only [Bool.and_eq_true, decide_eq_true_eq] at h2
    obtain ⟨a1, a2, a3⟩ := h2
    obtain ⟨n, rfl, n0, n1⟩ := inO_get a2
    have hk : RowB 5 k := by
      have all : ∀ k ∈ (["is", "least", "most"] : List Str), rowBb 5 k = true := by decide +kernel
      exact rowB_of (all k a1)
    have kb : RowB 8 "by" := rowB_of (by decide +kernel)
    have ki : RowB 8 "in" := rowB_of (by decide +kernel)
    rcases ws with _ | ⟨w0, _ | ⟨w1, _ | ⟨w2, r⟩⟩⟩
    · cases a3
    · have a4 : (decide (w0 = ("by" : Str)) && inO o2 0 ((many : Nat) - 1)) = true := a3
      simp only [Bool.and_eq_true, decide_eq_true_eq] at a4
      obtain ⟨rfl, a5⟩ := a4
      obtain ⟨m, rfl, m0, m1⟩ := inO_get a5
      exact ⟨k, n, _, m, rfl, hk, n0, n1, by decide, fun w hw => by rw [List.mem_singleton.mp hw]; exact kb, m0, by omega⟩
    · have a4 : (decide (w0 = ("in" : Str)) && (decide (w1 ∈ vn) && inO o2 1 (many : Nat))) = true := a3
      simp only [Bool.and_eq_true, decide_eq_true_eq] at a4
      obtain ⟨rfl, hw1, a5⟩ := a4
      obtain ⟨m, rfl, m0, m1⟩ := inO_get a5
      refine ⟨k, n, _, m, rfl, hk, n0, n1, by simp, fun w hw => ?_, by omega, by omega⟩
      simp only [List.mem_cons, List.not_mem_nil, or_false] at hw
      rcases hw with rfl | rfl
      · exact ki
      · exact rowB_name hV hw1
    · cases a3
theorem rowB_step {ws : List Str} {n : Int} (h : ∀ w ∈ ws, RowB 8 w) (hl : ws.length ≤ 3) (n0 : 0 ≤ n) (n1 : n ≤ 9999) : RowB 36 (stepRow ws n) := by
  have z := RowB.join (n := 8) (ws := ws ++ [numS n]) fun w hw => by
    rcases List.mem_append.mp hw with hw | hw
    · exact h w hw
    · rw [List.mem_singleton.mp hw]
      exact (rowB_num n0 n1).up (by decide)
  rw [List.length_append, List.length_singleton] at z
  exact z.up (by omega)
theorem rowB_blank : RowB 1 " " := rowB_of (by decide +kernel)
theorem rows_ok {vn : List Str} {st : List StepT} {sa : List SampT} (hV : NamesOk vn) (hst : ∀ s ∈ st, stepB vn s.2 s.1 = true) (l14 : st.length ≤ 14) (hsa : ∀ z ∈ sa, sampB vn (st.length : Nat) z = true) : ∀ r ∈ yRows vn st sa, RowB 70 r := by
  intro r hr
  rcases List.mem_cons.mp hr with rfl | hr
  · have z := RowB.join (n := 8) (ws := ("vessels" : Str) :: vn) fun w hw => by
      rcases List.mem_cons.mp hw with rfl | hw
      · exact rowB_of (by decide +kernel)
      · exact rowB_name hV hw
    have v6 := hV.2.2.1
    rw [List.length_cons] at z
    exact z.up (by omega)
  · rcases List.mem_append.mp hr with hr | hr
    · obtain ⟨s, hs, rfl⟩ := List.mem_map.mp hr
      obtain ⟨h1, h2, m, e, m1, m2⟩ := step_words hV (hst s hs)
      rw [e]
      exact (rowB_step h2 h1 (by show 0 ≤ m; omega) (by show m ≤ 9999; omega)).up (by decide)
    · obtain ⟨z, hz, rfl⟩ := List.mem_map.mp hr
      obtain ⟨k, n, ws, m, rfl, hk, n0, n1, lw, hw, m0, m1⟩ := samp_words hV l14 (hsa z hz)
      exact (((((hk.app rowB_blank).app (rowB_num n0 n1)).app rowB_blank).app (rowB_step hw (by omega) m0 (by omega)))).up (by decide)
theorem paired_at2 {α β : Type} {R : α → β → Prop} : ∀ {xs : List α} {ys : List β} {i : Nat} {y : β}, Paired R xs ys → ys[i]? = some y → ∃ x, xs[i]? = some x ∧ R x y
  | _, _, _, _, .nil, h => by simp at h
  | _, _, 0, _, .cons a _, h => by
    simp at h
    subst h
    exact ⟨_, rfl, a⟩
  | _, _, i + 1, _, .cons _ t, h => paired_at2 (i := i) t (by simpa using h)
end Er
set_option Elab.async false
set_option linter.all false
set_option maxRecDepth 100000
set_option maxHeartbeats 4000000
/-! zip of a list and a tuple. -/
namespace Er
open PySem PySem.Spec PyProof.Rows L2
/-- the list at a beside the tuple at b, each two in a new pair -/
def ItZL (K : PySem.W.Frag) (a b : Addr) : It :=
  ⟨fun i H => ∃ (xs ys : List V) (x y : V), SqL K H a xs ∧ SqT K H b ys ∧ xs[i]? = some x ∧ ys[i]? = some y, fun i H v H' => ∃ T x y, v = .ref T ∧ H T = none ∧ H' = upd H T (.tup [x, y]) ∧ (∀ xs, SqL K H a xs → xs[i]? = some x) ∧ ∀ ys, SqT K H b ys → ys[i]? = some y, fun i H => ∃ xs ys : List V, SqL K H a xs ∧ SqT K H b ys ∧ min xs.length ys.length = i⟩
def tnZL (a b z TI TO i1 i2 : Addr) (i : Nat) (h : Heap) : Prop := IsZip h z TI TO .none ∧ IsTupOf2 h TI (.ref i1) (.ref i2) ∧ (∃ a1 a2, IsTupOf2 h TO a1 a2) ∧ h.IsListIter i1 a i ∧ h.IsTupleIter i2 b i
theorem turn_zipL {P : Program} {w : World} {K : PySem.W.Frag} {elts : List Expr} {kk : Nat} {tpos : Pos} {a b z TI TO i1 i2 : Addr} (sep : ZipSep2 z TI TO i1 i2 [i1, a] [i2, b]) :
    Turn P w K (.Tuple elts kk tpos) (ItZL K a b) [z, TI, TO, i1, i2] z (tnZL a b z TI TO i1 i2) where
  mem := by simp
  obj := fun i h st c hc => by
    obtain ⟨hz, hTI, ⟨a1, a2, hTO⟩, ⟨o1, g1, c1, d1⟩, ⟨o2, g2, c2, d2⟩⟩ := st
    have e' : c = z ∨ c = TI ∨ c = TO ∨ c = i1 ∨ c = i2 := by simpa using hc
    rcases e' with y | y | y | y | y
    · rw [y]; exact ⟨_, hz, fun v q => nomatch q⟩
    · rw [y]; exact ⟨_, hTI, fun v q => nomatch q⟩
    · rw [y]; exact ⟨_, hTO, fun v q => nomatch q⟩
    · rw [y]; exact ⟨o1, g1, fun v q => by rw [d1] at q; cases q⟩
    · rw [y]; exact ⟨o2, g2, fun v q => by rw [d2] at q; cases q⟩
  keep := fun i h h' st kp => let ⟨hz, hTI, ⟨a1, a2, hTO⟩, h1, h2⟩ := st
    ⟨kp z (by simp) _ hz, kp TI (by simp) _ hTI, ⟨a1, a2, kp TO (by simp) _ hTO⟩, h1.at fun o q => kp i1 (by simp) o q, h2.at fun o q => kp i2 (by simp) o q⟩
  item := by
    intro X hP hw hK hc i pins s σ H E I hf st hg
    subst hP hw hK
    obtain ⟨hz, hTI, hTO, h1, h2⟩ := st
    obtain ⟨xs, ys, x, y, hqa, hqb, hx, hy⟩ := hg
    obtain ⟨its1, rv1, p1, hz1⟩ := I.list hqa
    obtain ⟨its2, rv2, p2, hz2⟩ := I.tuple hqb
    obtain ⟨u1, hu1, ru1⟩ := rv1.get hx
    obtain ⟨u2, hu2, ru2⟩ := rv2.get hy
    have calm : X.A.in1.handled = none := by simp [I.ok.hd hc]
    have hai : a ≠ i1 := fun e => by
      obtain ⟨o1, g1, c1, _⟩ := p1.isList
      obtain ⟨o2, g2, c2, _⟩ := h1
      rw [e, g2] at g1
      cases g1
      rw [c2] at c1
      injection c1 with c1
      exact absurd c1 (by decide)
    have hbi : b ≠ i2 := fun e => by
      obtain ⟨o1, g1, c1, _⟩ := p2
      obtain ⟨o2, g2, c2, _⟩ := h2
      rw [e, g2] at g1
      cases g1
      rw [c2] at c1
      injection c1 with c1
      exact absurd c1 (by decide)
    have G := GoesN.zip2 (elts := elts) (x1 := kk) (pos := tpos) (A := X.A) sep (Draws.list (prog := X.prog) (w := X.w) calm i1 a hai its1.toArray) (Draws.tuple (prog := X.prog) (w := X.w) calm i2 b hbi its2.toArray)
    have l1 : i < its1.toArray.size := by
      have := (List.getElem?_eq_some_iff.mp hu1).1
      simpa using this
    have l2 : i < its2.toArray.size := by
      have := (List.getElem?_eq_some_iff.mp hu2).1
      simpa using this
    refine G.goes i s _ E (by omega) ⟨hz, hTI, hTO, ⟨h1, p1.isList⟩, ⟨h2, p2⟩⟩ fun v h' tk hY hS' hk htk => ?_
    obtain ⟨T, x', y', rfl, hsz, ex, ey, hT⟩ := hY
    have e1 : x' = u1 := by
      have z1 : its1[i]? = some x' := by simpa using ex
      exact Option.some.inj (z1.symm.trans hu1)
    have e2 : y' = u2 := by
      have z1 : its2[i]? = some y' := by simpa using ey
      exact Option.some.inj (z1.symm.trans hu2)
    subst e1 e2
    obtain ⟨kz, kTI, kTO, ⟨k1, _⟩, ⟨k2, _⟩⟩ := hS'
    have new : ObjOk X.prog X.w (upd H T (.tup [x, y])) h' T (.tup [x, y]) := ⟨by show 2 ≤ sizeLine; decide, [x', y'], .cons ru1 (.cons ru2 .nil), hT⟩
    have I1 : Inv X pins σ (upd H T (.tup [x, y])) { s with heap := h', toks := tk } :=
      I.turnedNew (ch := [z, TO, i1, i2]) (fun c o hc q => hk c o hc q) (fun c hc => hf c (by
        have e' : c = z ∨ c = TO ∨ c = i1 ∨ c = i2 := by simpa using hc
        rcases e' with y | y | y | y <;> simp [y])) hsz new
    refine ⟨.ref T, _, I1, rfl, ⟨T, x, y, rfl, I.hok.fresh hsz, rfl, fun xs2 h => by rw [I.list_inj h hqa]; exact hx, fun ys2 h => by rw [I.tuple_inj h hqb]; exact hy⟩, ⟨kz, kTI, kTO, k1, k2⟩, fun c hc => ?_⟩
    have hb' : c < s.heap.objs.size := by
      have e' : c = z ∨ c = TI ∨ c = TO ∨ c = i1 ∨ c = i2 := by simpa using hc
      obtain ⟨a1, a2, hTO'⟩ := hTO
      rcases e' with y | y | y | y | y
      · rw [y]; exact Heap.lt_size hz
      · rw [y]; exact Heap.lt_size hTI
      · rw [y]; exact Heap.lt_size hTO'
      · rw [y]; obtain ⟨_, q, _⟩ := h1; exact Heap.lt_size q
      · rw [y]; obtain ⟨_, q, _⟩ := h2; exact Heap.lt_size q
    have hne : c ≠ T := fun e => by
      rw [e] at hb'
      exact absurd hsz (Nat.not_le.mpr hb')
    rw [upd_ne hne]
    exact (hf c hc).1
  done := by
    intro X hP hw hK hc i pins s σ H E I hf st hg
    subst hP hw hK
    obtain ⟨hz, hTI, hTO, h1, h2⟩ := st
    obtain ⟨xs, ys, hqa, hqb, hx⟩ := hg
    obtain ⟨its1, rv1, p1, hz1⟩ := I.list hqa
    obtain ⟨its2, rv2, p2, hz2⟩ := I.tuple hqb
    have calm : X.A.in1.handled = none := by simp [I.ok.hd hc]
    have hai : a ≠ i1 := fun e => by
      obtain ⟨o1, g1, c1, _⟩ := p1.isList
      obtain ⟨o2, g2, c2, _⟩ := h1
      rw [e, g2] at g1
      cases g1
      rw [c2] at c1
      injection c1 with c1
      exact absurd c1 (by decide)
    have hbi : b ≠ i2 := fun e => by
      obtain ⟨o1, g1, c1, _⟩ := p2
      obtain ⟨o2, g2, c2, _⟩ := h2
      rw [e, g2] at g1
      cases g1
      rw [c2] at c1
      injection c1 with c1
      exact absurd c1 (by decide)
    have G := GoesN.zip2 (elts := elts) (x1 := kk) (pos := tpos) (A := X.A) sep (Draws.list (prog := X.prog) (w := X.w) calm i1 a hai its1.toArray) (Draws.tuple (prog := X.prog) (w := X.w) calm i2 b hbi its2.toArray)
    have en : min its1.toArray.size its2.toArray.size = i := by
      have q1 := rv1.length
      have q2 := rv2.length
      rw [List.size_toArray, List.size_toArray]
      omega
    refine G.stops s _ E (by rw [en]; exact ⟨hz, hTI, hTO, ⟨h1, p1.isList⟩, ⟨h2, p2⟩⟩) fun h' tk hk htk => ?_
    exact I.turnedL (ch := [z, TO, i1, i2]) (fun c o hc q => hk c o hc q) (fun c hc => hf c (by
        have e' : c = z ∨ c = TO ∨ c = i1 ∨ c = i2 := by simpa using hc
        rcases e' with y | y | y | y <;> simp [y]))
  self := fun A i s Q E st h => wpAny_pyIter_zip st.1 h
def iZipLT (K : PySem.W.Frag) (ta : TA) : TI := fun σ H R => ta σ H fun vs H1 => ∃ a b xs ys, vs = [.ref a, .ref b] ∧ SqL K H1 a xs ∧ SqT K H1 b ys ∧ R (ItZL K a b) H1
theorem pi_zipLT {X : Cx} {e e2 : Expr} {ta : TA} {p pos tpos : Pos} {elts : List Expr} {kk : Nat} (hg : Gl X "zip") (hm : X.mg "zip" = none) (ha : PA X [e, e2] ta) (hs : starEach [e, e2] X.env = (false, eval e X.env) :: starEach [e2] X.env := by rfl) (hs2 : starEach [e2] X.env = (false, eval e2 X.env) :: starEach [] X.env := by rfl) :
    PI X (.Tuple elts kk tpos) (.Call (.Name "zip" p) [e, e2] [] pos) (iZipLT X.K ta) := by
  refine ⟨fun pins s σ H R I h => Call_ (ld_blt I hg hm boot_zip (PyProof.Rows.callWith_type1 (thn (ha.run pos pins s σ H _ I h) fun us s1 got => ?_) hs (by rw [hs2]; rfl)))⟩
  obtain ⟨vs, H1, I1, rv, a, b, xs, ys, rfl, hq, hq2, q⟩ := got
  obtain ⟨u, u2, rfl, ru, ru2⟩ := L2.vals2 rv
  cases ru
  cases ru2
  obtain ⟨its, r, p1, hz⟩ := I1.list hq
  obtain ⟨its2, r2, p2, hz2⟩ := I1.tuple hq2
  have la : a < s1.heap.objs.size := by
    obtain ⟨_, q, _⟩ := p1.isList
    exact Heap.lt_size q
  have lb : b < s1.heap.objs.size := by
    obtain ⟨_, q, _⟩ := p2
    exact Heap.lt_size q
  refine zip_begins2 (begins_list a its.toArray) (begins_tuple b its2.toArray) p1.isList p2 fun h2 hz3 hTI hTO g1 g2 hsz kp => wpAny_pyIter_zip hz3 ?_
  have I2 : Inv X pins σ H1 { s1 with heap := h2 } := I1.kept (t' := s1.toks) kp
  have sep := zip_sep2 (N := s1.heap.objs.size) (fp1 := [a]) (fp2 := [b]) (fun c hc => by rw [List.mem_singleton.mp hc]; exact la) (fun c hc => by rw [List.mem_singleton.mp hc]; exact lb)
  refine ⟨s1.heap.objs.size + 4, [s1.heap.objs.size + 4, s1.heap.objs.size + 2, s1.heap.objs.size + 3, s1.heap.objs.size, s1.heap.objs.size + 1], _, _, H1, rfl, I2, turn_zipL sep, ⟨hz3, hTI, ⟨_, _, hTO⟩, ⟨_, g1, rfl, rfl⟩, ⟨_, g2, rfl, rfl⟩⟩, fun c hc => ?_, q⟩
  have up : s1.heap.objs.size ≤ c := by
    have e' : c = s1.heap.objs.size + 4 ∨ c = s1.heap.objs.size + 2 ∨ c = s1.heap.objs.size + 3 ∨ c = s1.heap.objs.size ∨ c = s1.heap.objs.size + 1 := by simpa using hc
    rcases e' with y | y | y | y | y <;> (rw [y]; first | exact Nat.le_add_right _ _ | exact Nat.le_refl _)
  exact I1.fpOk up (I1.hok.fresh up)
theorem walk_zipLT {K : PySem.W.Frag} {a b : Addr} {xs ys : List V} {n : Nat} (hn : n = min xs.length ys.length) : Walk (ItZL K a b) n (fun H => SqL K H a xs ∧ SqT K H b ys) (YPair (fun i => xs[i]?) (fun i => ys[i]?)) := by
  refine ⟨fun i _ hi q => ?_, fun _ q => ⟨xs, ys, q.1, q.2, hn.symm⟩, fun i H v H' _ q y => ?_⟩
  · have h1 : i < xs.length := by omega
    have h2 : i < ys.length := by omega
    exact ⟨xs, ys, xs[i], ys[i], q.1, q.2, by simp [h1], by simp [h2]⟩
  · obtain ⟨T, x, y, h1, h2, h3, h4, h5⟩ := y
    exact ⟨T, x, y, h1, h2, h3, h4 xs q.1, h5 ys q.2⟩
end Er
set_option Elab.async false
set_option linter.all false
set_option maxRecDepth 100000
set_option maxHeartbeats 4000000
/-! Levels of drawn yards, and the dye that goes with a row. -/
namespace Er
open PySem PySem.Spec PyProof.Rows L2 TL
/-- the steps, each with a number in the place of its own -/
def dyedS (st : List StepT) (its : List Int) : List StepT := List.zipWith (fun s d => (s.1, some d)) st its
theorem dyedS_len (st : List StepT) (its : List Int) : (dyedS st its).length = min st.length its.length := List.length_zipWith
theorem dyedS_at {vn : List Str} {st : List StepT} {its : List Int} {i : Nat} (hi : i < (dyedS st its).length) (hst : ∀ s ∈ st, stepB vn s.2 s.1 = true) : ∃ w0 n d, st[i]? = some (w0, some n) ∧ its[i]? = some d ∧ (dyedS st its)[i]? = some (w0, some d) := by
  rw [dyedS_len] at hi
  have h1 : i < st.length := by omega
  have h2 : i < its.length := by omega
  obtain ⟨⟨n, e, _⟩, _⟩ := step_cases (hst _ (List.getElem_mem h1))
  refine ⟨st[i].1, n, its[i], ?_, List.getElem?_eq_getElem h2, ?_⟩
  · rw [List.getElem?_eq_getElem h1, ← e]
  · unfold dyedS
    rw [List.getElem?_zipWith, List.getElem?_eq_getElem h1, List.getElem?_eq_getElem h2]
def spDyes (K : PySem.W.Frag) : Sp := fun vs H Q _ => ∃ o t vn st sa its, vs = [.ref o, .ref t] ∧ OwnAt K H o vn st sa ∧ SqT K H t (iV its) ∧ vn.Nodup ∧ (∀ s ∈ st, stepB vn s.2 s.1 = true) ∧ st.length ≤ 1000 ∧ vn.length ≤ 1000 ∧
  ∀ p rs H', Same H H' → H p = none → H' p = some (.lst (rs.map V.ref)) → Paired (fun r lv => H' r = some (.dK (kvL vn lv))) rs (levsOf vn (dyedS st its)) → Q (.ref p) H'
theorem getD_set {l : List Int} {i j : Nat} {x : Int} (hi : i < l.length) : (l.set i x).getD j 0 = if j = i then x else l.getD j 0 := by
  rw [List.getD_eq_getElem?_getD, List.getD_eq_getElem?_getD]
  by_cases h : j = i
  · rw [if_pos h, h, List.getElem?_set_self hi]
    rfl
  · rw [if_neg h, List.getElem?_set_ne (fun z => h z.symm)]
theorem pour_at {vn : List Str} {L : List Int} {k a b : Str} {n : Int} (lL : L.length = vn.length) (ha : a ∈ vn) (hb : b ∈ vn) (j : Nat) : (movedL vn L [k, a, b] n).getD j 0 = if j = vn.idxOf b then (if vn.idxOf b = vn.idxOf a then L.getD (vn.idxOf a) 0 - n else L.getD (vn.idxOf b) 0) + n else if j = vn.idxOf a then L.getD (vn.idxOf a) 0 - n else L.getD j 0 := by
  have ia : vn.idxOf a < L.length := by rw [lL]; exact List.idxOf_lt_length_of_mem ha
  have ib : vn.idxOf b < L.length := by rw [lL]; exact List.idxOf_lt_length_of_mem hb
  rw [mov_pour, getD_set (by rw [List.length_set]; exact ib), getD_set ia, getD_set ia]
/-- each level at least as much as the dye, and none below 0 -/
def Under (L D : List Int) : Prop := ∀ j, 0 ≤ D.getD j 0 ∧ D.getD j 0 ≤ L.getD j 0
/-- what goes with a step that takes from no vessel -/
def FixD (ws : List Str) (n d : Int) : Prop := takenS ws = none → d = if ws.headD "" = ("fill" : Str) then 0 else n
/-- how much dye may go with a step -/
def ChOk (vn : List Str) (ws : List Str) (n : Int) (L D : List Int) (d : Int) : Prop := FixD ws n d ∧ 0 ≤ d ∧ d ≤ n ∧ ∀ a, takenS ws = some a → n - (L.getD (vn.idxOf a) 0 - D.getD (vn.idxOf a) 0) ≤ d ∧ d ≤ D.getD (vn.idxOf a) 0
theorem under_step {vn : List Str} {ws : List Str} {n d : Int} {L D : List Int} (u : Under L D) (lL : L.length = vn.length) (lD : D.length = vn.length) (hb : stepB vn (some n) ws = true) (c : ChOk vn ws n L D d) : Under (movedL vn L ws n) (movedL vn D ws d) := by
  obtain ⟨_, c1, c2, c3⟩ := c
  obtain ⟨_, hc⟩ := step_cases hb
  have ixL : ∀ a, a ∈ vn → vn.idxOf a < L.length := fun a ha => by rw [lL]; exact List.idxOf_lt_length_of_mem ha
  have ixD : ∀ a, a ∈ vn → vn.idxOf a < D.length := fun a ha => by rw [lD]; exact List.idxOf_lt_length_of_mem ha
  have add : ∀ k a, a ∈ vn → k ≠ ("draw" : Str) → Under (movedL vn L [k, a] n) (movedL vn D [k, a] d) := fun k a ha hk j => by
    rw [mov_fill hk, mov_fill hk, getD_set (ixL a ha), getD_set (ixD a ha)]
    have u1 := u j
    have u2 := u (vn.idxOf a)
    split
    · omega
    · exact u1
  rcases hc with ⟨a, ha, rfl | rfl | rfl⟩ | ⟨a, b, ha, hb2, hab, rfl⟩
  · exact add _ a ha (by decide +kernel)
  · exact add _ a ha (by decide +kernel)
  · intro j
    rw [mov_draw, mov_draw, getD_set (ixL a ha), getD_set (ixD a ha)]
    have u1 := u j
    have u2 := u (vn.idxOf a)
    have z := c3 a (by rw [takenS_2, if_pos rfl])
    split
    · omega
    · exact u1
  · intro j
    rw [pour_at lL ha hb2, pour_at lD ha hb2]
    have u1 := u j
    have u2 := u (vn.idxOf a)
    have u3 := u (vn.idxOf b)
    have z := c3 a rfl
    have ne : vn.idxOf b ≠ vn.idxOf a := fun y => hab (by
      have z1 := (idx_at ha).1
      have z2 := (idx_at hb2).1
      rw [← y, z2] at z1
      exact (Option.some.inj z1).symm)
    rw [if_neg ne, if_neg ne]
    split
    · omega
    · split
      · omega
      · exact u1
theorem mov_up {vn : List Str} {ws : List Str} {n : Int} {L : List Int} (lL : L.length = vn.length) (hb : stepB vn (some n) ws = true) (m : Int) (h : ∀ j, L.getD j 0 ≤ m) : ∀ j, (movedL vn L ws n).getD j 0 ≤ m + 99 := by
  obtain ⟨⟨n', e, n1, n2⟩, hc⟩ := step_cases hb
  cases e
  have ixL : ∀ a, a ∈ vn → vn.idxOf a < L.length := fun a ha => by rw [lL]; exact List.idxOf_lt_length_of_mem ha
  have add : ∀ k a, a ∈ vn → k ≠ ("draw" : Str) → ∀ j, (movedL vn L [k, a] n).getD j 0 ≤ m + 99 := fun k a ha hk j => by
    rw [mov_fill hk, getD_set (ixL a ha)]
    have u1 := h j
    have u2 := h (vn.idxOf a)
    split <;> omega
  rcases hc with ⟨a, ha, rfl | rfl | rfl⟩ | ⟨a, b, ha, hb2, hab, rfl⟩
  · exact add _ a ha (by decide +kernel)
  · exact add _ a ha (by decide +kernel)
  · intro j
    rw [mov_draw, getD_set (ixL a ha)]
    have u1 := h j
    have u2 := h (vn.idxOf a)
    split <;> omega
  · intro j
    rw [mov_pour, getD_set (by rw [List.length_set]; exact ixL b hb2), getD_set (ixL a ha), getD_set (ixL a ha)]
    have u1 := h j
    have u2 := h (vn.idxOf a)
    have u3 := h (vn.idxOf b)
    split
    · split <;> omega
    · split <;> omega
theorem rep_zero (n j : Nat) : (List.replicate n (0 : Int)).getD j 0 = 0 := by
  rw [List.getD_eq_getElem?_getD, List.getElem?_replicate]
  split <;> rfl
theorem Grown.take {vn : List Str} {st : List StepT} (h : Grown vn st) : ∀ i, Grown vn (st.take i) := by
  induction h with
  | nil =>
    intro i
    rw [List.take_nil]
    exact .nil
  | @snoc st ws m g d ih =>
    intro i
    by_cases hi : i ≤ st.length
    · rw [List.take_append_of_le_length hi]
      exact ih i
    · rw [List.take_of_length_le (by simp; omega)]
      exact g.snoc d
theorem Grown.at {vn : List Str} {st : List StepT} (h : Grown vn st) : ∀ {i : Nat} {s : StepT}, st[i]? = some s → ∃ ws m, s = (ws, some m) ∧ deedOk vn (st.take i) [] ws (some m) = true := by
  induction h with
  | nil =>
    intro i s hs
    simp at hs
  | @snoc st ws m g d ih =>
    intro i s hs
    by_cases hi : i < st.length
    · rw [List.getElem?_append_left hi] at hs
      rw [List.take_append_of_le_length (by omega)]
      exact ih hs
    · rw [List.getElem?_append_right (by omega)] at hs
      have hz : i - st.length = 0 := by
        have z := (List.getElem?_eq_some_iff.mp hs).1
        simp at z
        omega
      rw [hz] at hs
      cases Option.some.inj hs
      have e : i = st.length := by omega
      rw [e, List.take_left']
      · exact ⟨ws, m, rfl, d⟩
      · rfl
theorem deed_step {vn : List Str} {st : List StepT} {ws : List Str} {o : Option Int} (h : deedOk vn st [] ws o = true) : stepB vn o ws = true := (Bool.and_eq_true_iff.mp h).1
theorem deed_low {vn : List Str} {st : List StepT} {ws : List Str} {m : Int} (h : deedOk vn st [] ws (some m) = true) : ∀ a, takenS ws = some a → m ≤ (levAt vn st).getD (vn.idxOf a) 0 := by
  unfold deedOk at h
  simp only [Bool.and_eq_true] at h
  exact low_iff.mp h.2.2.2.2
theorem Grown.le {vn : List Str} {st : List StepT} (h : Grown vn st) : ∀ j, (levAt vn st).getD j 0 ≤ 99 * (st.length : Int) := by
  induction h with
  | nil =>
    intro j
    have z : (levAt vn []).getD j 0 = 0 := rep_zero vn.length j
    rw [z]
    decide
  | @snoc st ws m g d ih =>
    intro j
    have z := mov_up (L := levAt vn st) levAt_len (deed_step d) _ ih j
    rw [levAt_snoc, List.length_append, List.length_singleton]
    show (movedL vn (levAt vn st) ws m).getD j 0 ≤ _
    omega
theorem Grown.nn {vn : List Str} {st : List StepT} (v6 : vn.length ≤ 6) (h : Grown vn st) : ∀ j, 0 ≤ (levAt vn st).getD j 0 := fun j => get_nn (h.minv v6).2.1
end Er
set_option Elab.async false
set_option linter.all false
set_option maxRecDepth 100000
set_option maxHeartbeats 4000000
/-! Spots of a drawn yard: all of them, their size, their dye; what may go with a step. -/
namespace Er
open PySem PySem.Spec PyProof.Rows L2 TL
def byT (i : Nat) : StepT := (["by"], some (i : Int))
def inT (i : Nat) (x : Str) : StepT := (["in", x], some ((i : Int) + 1))
def spotsB (n : Nat) : List StepT := (List.range n).map byT
def spotsI (vn : List Str) (n : Nat) : List StepT := (List.range n).flatMap fun i => vn.map (inT i)
def spSpots (K : PySem.W.Frag) : Sp := fun vs H Q _ => ∃ o vn st sa, vs = [.ref o] ∧ OwnAt K H o vn st sa ∧ vn.length ≤ 6 ∧ st.length ≤ 14 ∧
  ∀ p xs H', Same H H' → H p = none → H' p = some (.lst xs) → StepsAt K H' xs (spotsB st.length ++ spotsI vn st.length) → Q (.ref p) H'
def sizeS (vn : List Str) (st : List StepT) : List Str → Int → Int
  | [_], m => ((st[m.toNat]?.getD ([], none)).2).getD 0
  | [_, x], m => (levAt vn (st.take m.toNat)).getD (vn.idxOf x) 0
  | _, _ => 0
def spSize (K : PySem.W.Frag) : Sp := fun vs H Q _ => ∃ o t vn st sa ws m, vs = [.ref o, .ref t] ∧ OwnAt K H o vn st sa ∧ vn.Nodup ∧ (∀ s ∈ st, stepB vn s.2 s.1 = true) ∧ st.length ≤ 14 ∧ vn.length ≤ 6 ∧ SqT K H t (wv ws (some m)) ∧ spotB vn (st.length : Nat) (some m) ws = true ∧
  ∀ H', Same H H' → Q (.int (sizeS vn st ws m)) H'
def dyeS (vn : List Str) (st : List StepT) (its : List Int) : List Str → Int → Int
  | [_], m => its.getD m.toNat 0
  | [_, x], m => (levAt vn ((dyedS st its).take m.toNat)).getD (vn.idxOf x) 0
  | _, _ => 0
def spDye (K : PySem.W.Frag) : Sp := fun vs H Q _ => ∃ o ti t vn st sa its ws m, vs = [.ref o, .ref ti, .ref t] ∧ OwnAt K H o vn st sa ∧ SqT K H ti (iV its) ∧ its.length = st.length ∧ vn.Nodup ∧ (∀ s ∈ st, stepB vn s.2 s.1 = true) ∧ st.length ≤ 14 ∧ vn.length ≤ 6 ∧ SqT K H t (wv ws (some m)) ∧ spotB vn (st.length : Nat) (some m) ws = true ∧
  ∀ H', Same H H' → Q (.int (dyeS vn st its ws m)) H'
def spChoices (K : PySem.W.Frag) : Sp := fun vs H Q _ => ∃ t dd ld vn ws n L D, vs = [.ref t, .ref dd, .ref ld] ∧ SqT K H t (wv ws (some n)) ∧ H dd = some (.dK (kvL vn D)) ∧ H ld = some (.dK (kvL vn L)) ∧ L.length = vn.length ∧ D.length = vn.length ∧ stepB vn (some n) ws = true ∧ Under L D ∧ (∀ a, takenS ws = some a → n ≤ L.getD (vn.idxOf a) 0) ∧
  ∀ p cs H', Same H H' → H p = none → H' p = some (.lst (iV cs)) → 0 < cs.length → cs.length ≤ 100 → (∀ c ∈ cs, ChOk vn ws n L D c) → Q (.ref p) H'
theorem spot_cases {vn ws : List Str} {many : Int} {m : Int} (h : spotB vn many (some m) ws = true) : (ws = [("by" : Str)] ∧ 0 ≤ m ∧ m ≤ many - 1) ∨ ∃ x, x ∈ vn ∧ ws = [("in" : Str), x] ∧ 1 ≤ m ∧ m ≤ many := by
  rcases ws with _ | ⟨w0, _ | ⟨w1, _ | ⟨w2, r⟩⟩⟩
  · cases h
  · have a4 : (decide (w0 = ("by" : Str)) && inO (some m) 0 (many - 1)) = true := h
    simp only [Bool.and_eq_true, decide_eq_true_eq] at a4
    obtain ⟨rfl, a5⟩ := a4
    obtain ⟨m', e, m0, m1⟩ := inO_get a5
    cases e
    exact .inl ⟨rfl, m0, m1⟩
  · have a4 : (decide (w0 = ("in" : Str)) && (decide (w1 ∈ vn) && inO (some m) 1 many)) = true := h
    simp only [Bool.and_eq_true, decide_eq_true_eq] at a4
    obtain ⟨rfl, hw1, a5⟩ := a4
    obtain ⟨m', e, m0, m1⟩ := inO_get a5
    cases e
    exact .inr ⟨w1, hw1, rfl, m0, m1⟩
  · cases h
theorem StepsAt.app {K : PySem.W.Frag} {H : Hp} {xs ys : List V} {a b : List StepT} (h : StepsAt K H xs a) (k : StepsAt K H ys b) : StepsAt K H (xs ++ ys) (a ++ b) := by
  refine ⟨by rw [List.length_append, List.length_append, h.1, k.1], fun i z hz => ?_⟩
  by_cases hi : i < a.length
  · rw [List.getElem?_append_left hi] at hz
    rw [List.getElem?_append_left (by rw [h.1]; exact hi)]
    exact h.2 i z hz
  · rw [List.getElem?_append_right (by omega)] at hz
    rw [List.getElem?_append_right (by rw [h.1]; omega), h.1]
    exact k.2 _ z hz
theorem spotsI_len (vn : List Str) : ∀ n, (spotsI vn n).length = n * vn.length
  | 0 => by simp [spotsI]
  | n + 1 => by
    have ih := spotsI_len vn n
    have e : spotsI vn (n + 1) = spotsI vn n ++ vn.map (inT n) := by
      unfold spotsI
      rw [List.range_succ, List.flatMap_append, List.flatMap_singleton]
    rw [e, List.length_append, ih, List.length_map, Nat.succ_mul]
theorem i_lstRg {t : L2.St → Hp → (Int → Int → Hp → Prop) → Prop} {σ : L2.St} {H : Hp} {Q : VK} (h : t σ H fun a b H1 => RgOk a b ∧ ∀ q, H1 q = none → Q (.ref q) (upd H1 q (.lst (rgV a b)))) : tLstRg t σ H Q := h
theorem i_rg2 {ta tb : TE} {σ : L2.St} {H : Hp} {R : Int → Int → Hp → Prop} (h : ta σ H fun x H1 => tb σ H1 fun y H2 => ∃ i j, x = V.int i ∧ y = V.int j ∧ R i j H2) : tRg2 ta tb σ H R := h
theorem rg_int (a b : Int) : rgV a b = iV ((List.range (b - a).toNat).map fun i => a + (i : Nat)) := by
  unfold rgV iV
  rw [List.map_map]
  rfl
end Er
set_option Elab.async false
set_option linter.all false
set_option maxRecDepth 100000
set_option maxHeartbeats 4000000
/-! A row drawn for a drawn yard. -/
namespace Er
open PySem PySem.Spec PyProof.Rows L2 TL
/-- a row that a mixing is -/
def RowOk (vn : List Str) (st : List StepT) (its : List Int) : Prop := (∀ j, j ≤ its.length → Under (levAt vn (st.take j)) (levAt vn ((dyedS st its).take j))) ∧ ∀ (j : Nat) (s : StepT) (d : Int), st[j]? = some s → its[j]? = some d → 0 ≤ d ∧ d ≤ s.2.getD 0 ∧ FixD s.1 (s.2.getD 0) d
def spMixed (K : PySem.W.Frag) : Sp := fun vs H Q _ => ∃ p o n vn st sa, vs = [.ref p, .ref o] ∧ OwnAt K (But H p) o vn st sa ∧ NamesOk vn ∧ Grown vn st ∧ st.length ≤ 14 ∧ Pot H p n ∧ n + 20 ≤ 100000 ∧
  ∀ H' T its, Same (But H p) (But H' p) → Pot H' p (n + 14) → SqT K (But H' p) T (iV its) → its.length = st.length → RowOk vn st its → Q (.ref T) H'
theorem dyedS_snoc {st : List StepT} {its : List Int} {d : Int} {s : StepT} (h : st[its.length]? = some s) : dyedS st (its ++ [d]) = dyedS st its ++ [(s.1, some d)] := by
  induction its generalizing st with
  | nil =>
    cases st with
    | nil => simp at h
    | cons a r =>
      simp at h
      subst h
      unfold dyedS
      simp
  | cons x its ih =>
    cases st with
    | nil => simp at h
    | cons a r =>
      have h2 : r[its.length]? = some s := by simpa using h
      show (a.1, some x) :: dyedS r (its ++ [d]) = (a.1, some x) :: dyedS r its ++ [(s.1, some d)]
      rw [ih h2]
      rfl
theorem RowOk.nil {vn : List Str} {st : List StepT} : RowOk vn st [] := by
  refine ⟨fun j hj => ?_, fun j s d _ hd => ?_⟩
  · have e : j = 0 := by
      simp at hj
      exact hj
    subst e
    intro i
    have z : (levAt vn (st.take 0)).getD i 0 = 0 := rep_zero vn.length i
    have z2 : (levAt vn ((dyedS st []).take 0)).getD i 0 = 0 := rep_zero vn.length i
    rw [z, z2]
    exact ⟨Int.le_refl _, Int.le_refl _⟩
  · simp at hd
theorem RowOk.snoc {vn : List Str} {st : List StepT} {its : List Int} {ws : List Str} {n d : Int} (h : RowOk vn st its) (hs : st[its.length]? = some (ws, some n)) (hb : stepB vn (some n) ws = true) (c : ChOk vn ws n (levAt vn (st.take its.length)) (levAt vn (dyedS st its)) d) : RowOk vn st (its ++ [d]) := by
  have hl : its.length < st.length := (List.getElem?_eq_some_iff.mp hs).1
  have ld : (dyedS st its).length = its.length := by
    rw [dyedS_len]
    omega
  have e := dyedS_snoc (d := d) hs
  refine ⟨fun j hj => ?_, fun j s d' h1 h2 => ?_⟩
  · rw [e]
    rw [List.length_append, List.length_singleton] at hj
    by_cases hj2 : j ≤ its.length
    · rw [List.take_append_of_le_length (by omega)]
      exact h.1 j hj2
    · have ej : j = its.length + 1 := by omega
      subst ej
      have t1 : st.take (its.length + 1) = st.take its.length ++ [(ws, some n)] := by
        rw [List.take_add_one, hs]
        rfl
      have t2 : (dyedS st its ++ [(ws, some d)]).take (its.length + 1) = dyedS st its ++ [(ws, some d)] := by
        rw [List.take_of_length_le]
        rw [List.length_append, ld]
        exact Nat.le_refl _
      have u := h.1 its.length (Nat.le_refl _)
      rw [← ld, List.take_length, ld] at u
      rw [t1, t2, levAt_snoc, levAt_snoc]
      exact under_step u levAt_len levAt_len hb c
  · by_cases hj2 : j < its.length
    · rw [List.getElem?_append_left hj2] at h2
      exact h.2 j s d' h1 h2
    · rw [List.getElem?_append_right (by omega)] at h2
      have hz : j - its.length = 0 := by
        have z := (List.getElem?_eq_some_iff.mp h2).1
        simp at z
        omega
      rw [hz] at h2
      cases Option.some.inj h2
      have ej : j = its.length := by omega
      rw [ej, hs] at h1
      cases Option.some.inj h1
      exact ⟨c.2.1, c.2.2.1, c.1⟩
end Er
set_option Elab.async false
set_option linter.all false
set_option maxRecDepth 100000
set_option maxHeartbeats 4000000
/-! A Yard of drawn things, its own len and in; what its defs tell of rows. -/
namespace Er
open PySem PySem.Spec PyProof.Rows L2
def YardG (K : PySem.W.Frag) (H : Hp) (y : Addr) (vn : List Str) (st : List StepT) (sa : List SampT) : Prop := ∃ x, YardAt K H y x vn (st, sa, levsOf vn st)
theorem YardAt.same {K : PySem.W.Frag} {H H' : Hp} {y : Addr} {x : Str} {vn : List Str} {z : RS} (s : Same H H') (h : YardAt K H y x vn z) : YardAt K H' y x vn z := by
  obtain ⟨dx, fs, a, b, c, d, e, es, h1, h2, h3, h4, h5, h6, h7, h8, h9, h10, h11⟩ := h
  exact ⟨dx, fs, a, b, c, d, e, es, s _ _ h1, h2, h3, h4, h5, h6, h7, h8, h9.keep (KeepT.of s) (TupD.same s), sameT s h10, h11.keep (KeepT.of s)⟩
theorem YardG.same {K : PySem.W.Frag} {H H' : Hp} {y : Addr} {vn : List Str} {st : List StepT} {sa : List SampT} (s : Same H H') (h : YardG K H y vn st sa) : YardG K H' y vn st sa := let ⟨x, h⟩ := h; ⟨x, h.same s⟩
theorem YardG.open {K : PySem.W.Frag} {H : Hp} {y : Addr} {vn : List Str} {st : List StepT} {sa : List SampT} (h : YardG K H y vn st sa) :
    ∃ dx fs a b c d us vs ws, H y = some (.ins (He.ga K "Yard") dx fs) ∧ fs.lookup ("vessels" : Str) = some (.ref a) ∧ fs.lookup ("steps" : Str) = some (.ref b) ∧ fs.lookup ("samples" : Str) = some (.ref c) ∧ fs.lookup ("levels" : Str) = some (.ref d) ∧
      SqT K H a (sV vn) ∧ TupD K H a ∧ SqT K H b us ∧ StepsAt K H us st ∧ SqT K H c vs ∧ SampsAt K H vs sa ∧ SqT K H d ws ∧ LevsAt K H ws (levsOf vn st) ∧ st.length ≤ 14 ∧ sa.length ≤ 6 := by
  obtain ⟨x, dx, fs, a, b, c, d, e, es, h1, h2, h3, h4, h5, h6, h7, h8, ⟨k1, k2, us, vs, ws, k3, k4, k5, k6, k7, k8, k9⟩, h10, h11⟩ := h
  exact ⟨dx, fs, a, b, c, d, us, vs, ws, h1, h4, h5, h6, h7, k1, k2, k3, k4, k5, k6, k7, k8, k9.1, k9.2.1⟩
def spLenY (K : PySem.W.Frag) : Sp := fun vs H Q _ => ∃ y vn st sa, vs = [.ref y] ∧ YardG K H y vn st sa ∧ ∀ H', Same H H' → Q (.int (st.length : Nat)) H'
def spConY (K : PySem.W.Frag) : Sp := fun vs H Q _ => ∃ y v vn st sa, vs = [.ref y, .str v] ∧ YardG K H y vn st sa ∧ ∀ H', Same H H' → Q (.bl (decide (v ∈ vn))) H'
/-- the class Yard has a len and an in of its own -/
structure OwnY (P : Program) (w : World) (K : PySem.W.Frag) (mg : Str → Option Value) (base : Heap) : Prop where
  cls : Cls K (He.ga K "Yard")
  na : ∀ a ∈ (["vessels", "steps", "samples", "levels"] : List Str), NoAttr K (He.ga K "Yard") a
  len : ∃ fd, FnOk P w K mg base CX0 1 (He.ma K (He.ga K "Yard") "__len__") fd ["self"] (spLenY K) ∧ Binds K fd ["self"] []
  lenF : PySem.W.findIn K (.ref (He.ga K "Yard")) "__len__" = some (some (.ref (He.ma K (He.ga K "Yard") "__len__")))
  lenI : PySem.W.isFn K (.ref (He.ma K (He.ga K "Yard") "__len__")) = true
  con : ∃ fd, FnOk P w K mg base CX0 1 (He.ma K (He.ga K "Yard") "__contains__") fd ["self", "x"] (spConY K) ∧ Binds K fd ["self", "x"] []
  conF : PySem.W.findIn K (.ref (He.ga K "Yard")) "__contains__" = some (some (.ref (He.ma K (He.ga K "Yard") "__contains__")))
  conI : PySem.W.isFn K (.ref (He.ma K (He.ga K "Yard") "__contains__")) = true
def rLenY (K : PySem.W.Frag) : List V → Hp → VK → Prop := fun xs H Q => ∃ y vn st sa, xs = [.ref y] ∧ YardG K H y vn st sa ∧ ∀ H', Same H H' → Q (.int (st.length : Nat)) H'
theorem call_lenY {X : Cx} (O : OwnY X.prog X.w X.K X.mg X.base) (hr : Room 2 X.A) : CallR X (.builtin "len") (rLenY X.K) := by
  intro pins s σ H xs us Q I r h
  obtain ⟨y, vn, st, sa, rfl, hY, q⟩ := h
  obtain ⟨fd, F, b⟩ := O.len
  obtain ⟨dx, fs, _, _, _, _, _, _, _, hy, _, _, _, _, _, _, _, _, _, _, _, _, h14, _⟩ := hY.open
  exact call_lenOwn (E := E0) F O.lenF O.lenI b pass0 hr pins s σ H _ _ Q I r ⟨y, dx, fs, rfl, hy, y, vn, st, sa, rfl, hY, fun H' s' => ⟨st.length, rfl, by omega, q H' s'⟩⟩
def rInY (K : PySem.W.Frag) (neg : Bool) : R2 := fun x z H Q => ∃ v y vn st sa, x = .str v ∧ z = .ref y ∧ YardG K H y vn st sa ∧ ∀ H', Same H H' → Q (.bl (if neg then !decide (v ∈ vn) else decide (v ∈ vn))) H'
theorem op_inY {X : Cx} (O : OwnY X.prog X.w X.K X.mg X.base) (hr : Room 1 X.A) : OpR X (compareOp .In) (rInY X.K false) := by
  intro pins s σ H x z v u Q I rx ry h
  obtain ⟨v, y, vn, st, sa, rfl, rfl, hY, q⟩ := h
  obtain ⟨fd, F, b⟩ := O.con
  obtain ⟨dx, fs, _, _, _, _, _, _, _, hy, _⟩ := hY.open
  exact op_inOwn (E := E0) F O.conF O.conI b pass0 hr pins s σ H _ _ _ _ Q I rx ry ⟨y, dx, fs, rfl, hy, y, v, vn, st, sa, rfl, hY, fun H' s' => ⟨_, rfl, q H' s'⟩⟩
theorem op_notInY {X : Cx} (O : OwnY X.prog X.w X.K X.mg X.base) (hr : Room 1 X.A) : OpR X (compareOp .NotIn) (rInY X.K true) := by
  intro pins s σ H x z v u Q I rx ry h
  obtain ⟨v, y, vn, st, sa, rfl, rfl, hY, q⟩ := h
  obtain ⟨fd, F, b⟩ := O.con
  obtain ⟨dx, fs, _, _, _, _, _, _, _, hy, _⟩ := hY.open
  exact op_notInOwn (E := E0) F O.conF O.conI b pass0 hr pins s σ H _ _ _ _ Q I rx ry ⟨y, dx, fs, rfl, hy, y, v, vn, st, sa, rfl, hY, fun H' s' => ⟨_, rfl, q H' s'⟩⟩
theorem i_lenY {K : PySem.W.Frag} {y : Addr} {vn : List Str} {st : List StepT} {sa : List SampT} {H : Hp} {Q : VK} (hY : YardG K H y vn st sa) (q : ∀ H', Same H H' → Q (.int (st.length : Nat)) H') : rLenY K [.ref y] H Q := ⟨y, vn, st, sa, rfl, hY, q⟩
/-- a field of a Yard -/
theorem i_yf {K : PySem.W.Frag} {ta : TE} {f : Str} {σ : L2.St} {H : Hp} {Q : VK} (C : Cls K (He.ga K "Yard")) (N : NoAttr K (He.ga K "Yard") f) (h : ta σ H fun x H1 => ∃ y dx fs v, x = .ref y ∧ H1 y = some (.ins (He.ga K "Yard") dx fs) ∧ fs.lookup f = some v ∧ Q v H1) (m : ∀ {Q1 Q2 : VK}, (∀ v H, Q1 v H → Q2 v H) → ta σ H Q1 → ta σ H Q2) : tFld K ta f σ H Q :=
  m (fun x H1 ⟨y, dx, fs, v, e, hy, l, q⟩ => ⟨y, _, dx, fs, v, e, hy, C, N, l, q⟩) h
/-! what the defs tell of valid things -/
def spAreI (K : PySem.W.Frag) : Sp := fun vs H Q _ => ∃ t m its, vs = [.ref t, .int m] ∧ SqT K H t (iV its) ∧ its.length ≤ 1000 ∧ ∀ H', Same H H' → Q (.bl (decide ((its.length : Int) = m))) H'
def spChkS (K : PySem.W.Frag) : Sp := fun vs H Q _ => ∃ y t vn st sa ws m, vs = [.ref y, .ref t] ∧ YardG K H y vn st sa ∧ SqT K H t (wv ws (some m)) ∧ spotB vn (st.length : Nat) (some m) ws = true ∧ ∀ H', Same H H' → Q .non H'
def spChkM (K : PySem.W.Frag) : Sp := fun vs H Q _ => ∃ y i vn st sa, vs = [.ref y, .int i] ∧ YardG K H y vn st sa ∧ 0 ≤ i ∧ i ≤ (st.length : Nat) ∧ ∀ H', Same H H' → Q .non H'
/-- between which numbers the dye of a step must lie -/
def roomL (vn : List Str) (ws : List Str) (n : Int) (L D : List Int) : Int × Int := match takenS ws with
  | some a => (if (n - (L.getD (vn.idxOf a) 0 - D.getD (vn.idxOf a) 0)) > 0 then (n - (L.getD (vn.idxOf a) 0 - D.getD (vn.idxOf a) 0)) else 0, if D.getD (vn.idxOf a) 0 < n then D.getD (vn.idxOf a) 0 else n)
  | none => if ws.headD "" = ("fill" : Str) then (0, 0) else (n, n)
def faultL (vn : List Str) (ws : List Str) (n : Int) (L D : List Int) (d : Int) : Option Str :=
  if ¬ (0 ≤ d ∧ d ≤ n) ∨ (takenS ws = none ∧ d ≠ (roomL vn ws n L D).2) then some "number" else if (roomL vn ws n L D).2 < d then some "dye" else if d < (roomL vn ws n L D).1 then some "clean" else none
def AllSt (vn : List Str) (st : List StepT) : Prop := ∀ s ∈ st, stepB vn s.2 s.1 = true
def spRoom (K : PySem.W.Frag) : Sp := fun vs H Q _ => ∃ y i S vn st sa ws n D, vs = [.ref y, .int (i : Nat), .ref S] ∧ YardG K H y vn st sa ∧ AllSt vn st ∧ st[i]? = some (ws, some n) ∧ SqT K H S (iV D) ∧ D.length = vn.length ∧
  ∀ p H', Same H H' → H' p = some (.tup [.int (roomL vn ws n (levAt vn (st.take i)) D).1, .int (roomL vn ws n (levAt vn (st.take i)) D).2]) → Q (.ref p) H'
def spBehind (K : PySem.W.Frag) : Sp := fun vs H Q _ => ∃ y i S d vn st sa ws n D, vs = [.ref y, .int (i : Nat), .ref S, .int d] ∧ YardG K H y vn st sa ∧ AllSt vn st ∧ vn.length ≤ 6 ∧ st[i]? = some (ws, some n) ∧ SqT K H S (iV D) ∧ D.length = vn.length ∧
  ∀ p H', Same H H' → H' p = some (.tup (iV (movedL vn D ws d))) → Q (.ref p) H'
def spAllSt (K : PySem.W.Frag) : Sp := fun vs H Q _ => ∃ y t vn st sa its, vs = [.ref y, .ref t] ∧ YardG K H y vn st sa ∧ AllSt vn st ∧ vn ≠ [] ∧ vn.length ≤ 6 ∧ SqT K H t (iV its) ∧ its.length = st.length ∧
  ∀ p ws H', Same H H' → H' p = some (.lst ws) → LevsAt K H' ws (levsOf vn (dyedS st its)) → Q (.ref p) H'
def spFault (K : PySem.W.Frag) : Sp := fun vs H Q _ => ∃ y i S d vn st sa ws n D, vs = [.ref y, .int (i : Nat), .ref S, .int d] ∧ YardG K H y vn st sa ∧ AllSt vn st ∧ st[i]? = some (ws, some n) ∧ SqT K H S (iV D) ∧ D.length = vn.length ∧
  ∀ H', Same H H' → Q (optS (faultL vn ws n (levAt vn (st.take i)) D d)) H'
def spIsRow (K : PySem.W.Frag) : Sp := fun vs H Q _ => ∃ y t vn st sa its, vs = [.ref y, .ref t] ∧ YardG K H y vn st sa ∧ SqT K H t (iV its) ∧ its.length ≤ 1000 ∧ ∀ H', Same H H' → Q (.bl (decide ((its.length : Int) = (st.length : Nat)))) H'
/-- a row that is a mixing -/
def MixOk (vn : List Str) (st : List StepT) (its : List Int) : Prop := its.length = st.length ∧ ∀ (i : Nat) (ws : List Str) (n d : Int), st[i]? = some (ws, some n) → its[i]? = some d → faultL vn ws n (levAt vn (st.take i)) (levAt vn ((dyedS st its).take i)) d = none
def MixAt (K : PySem.W.Frag) (H : Hp) (y t : Addr) (vn : List Str) (st : List StepT) (sa : List SampT) (its : List Int) : Prop := YardG K H y vn st sa ∧ AllSt vn st ∧ vn ≠ [] ∧ vn.length ≤ 6 ∧ SqT K H t (iV its) ∧ MixOk vn st its
def spJudgeM (K : PySem.W.Frag) : Sp := fun vs H Q _ => ∃ y t vn st sa its, vs = [.ref y, .ref t] ∧ MixAt K H y t vn st sa its ∧ ∀ p H', Same H H' → SqT K H' p [.str "mixing"] → Q (.ref p) H'
def spIsMix (K : PySem.W.Frag) : Sp := fun vs H Q _ => ∃ y t vn st sa its, vs = [.ref y, .ref t] ∧ MixAt K H y t vn st sa its ∧ ∀ H', Same H H' → Q (.bl true) H'
def spChkMix (K : PySem.W.Frag) : Sp := fun vs H Q _ => ∃ y t vn st sa its, vs = [.ref y, .ref t] ∧ MixAt K H y t vn st sa its ∧ ∀ H', Same H H' → Q .non H'
def spDyeOf (K : PySem.W.Frag) : Sp := fun vs H Q _ => ∃ y t p vn st sa its ws m, vs = [.ref y, .ref t, .ref p] ∧ YardG K H y vn st sa ∧ AllSt vn st ∧ vn ≠ [] ∧ vn.length ≤ 6 ∧ SqT K H t (iV its) ∧ its.length = st.length ∧ SqT K H p (wv ws (some m)) ∧ spotB vn (st.length : Nat) (some m) ws = true ∧
  ∀ H', Same H H' → Q (.int (dyeS vn st its ws m)) H'
def spDyeP (K : PySem.W.Frag) : Sp := fun vs H Q _ => ∃ y t p vn st sa its ws m, vs = [.ref y, .ref t, .ref p] ∧ MixAt K H y t vn st sa its ∧ SqT K H p (wv ws (some m)) ∧ spotB vn (st.length : Nat) (some m) ws = true ∧
  ∀ H', Same H H' → Q (.int (dyeS vn st its ws m)) H'
def spStands (K : PySem.W.Frag) : Sp := fun vs H Q _ => ∃ y t i vn st sa its, vs = [.ref y, .ref t, .int (i : Nat)] ∧ MixAt K H y t vn st sa its ∧ i ≤ st.length ∧ ∀ p H', Same H H' → SqT K H' p (iV (levAt vn ((dyedS st its).take i))) → Q (.ref p) H'
theorem MixAt.same {K : PySem.W.Frag} {H H' : Hp} {y t : Addr} {vn : List Str} {st : List StepT} {sa : List SampT} {its : List Int} (s : Same H H') (h : MixAt K H y t vn st sa its) : MixAt K H' y t vn st sa its := ⟨h.1.same s, h.2.1, h.2.2.1, h.2.2.2.1, sameT s h.2.2.2.2.1, h.2.2.2.2.2⟩
theorem shAll_iV {K : PySem.W.Frag} {H : Hp} : ∀ (ns : List Int), ShAll K H (iV ns) (ns.map PyData.int)
  | [] => .nil
  | n :: ns => .cons (.int n) (shAll_iV ns)
theorem levs_at {vn : List Str} {st : List StepT} {i : Nat} (h : i ≤ st.length) : (levsOf vn st)[i]? = some (levAt vn (st.take i)) := by
  unfold levsOf
  rw [List.getElem?_map, List.getElem?_range (by omega)]
  rfl
theorem LevsAt.at {K : PySem.W.Frag} {H : Hp} {ws : List V} {lv : List (List Int)} {i : Nat} {l : List Int} (h : LevsAt K H ws lv) (e : lv[i]? = some l) : ∃ r, ws[i]? = some (.ref r) ∧ SqT K H r (iV l) := by
  obtain ⟨v, hv, r, rfl, hr⟩ := paired_at2 h e
  exact ⟨r, hv, hr⟩
theorem iV_at {D : List Int} {j : Nat} (h : j < D.length) : (iV D)[j]? = some (.int (D.getD j 0)) := by
  unfold iV
  rw [List.getElem?_map, List.getElem?_eq_getElem h, List.getD_eq_getElem?_getD, List.getElem?_eq_getElem h]
  rfl
theorem at_endL {xs : List V} {v : V} {i : Nat} (hl : xs.length = i + 1) (h : xs[i]? = some v) : atI xs (-1) = some v := by
  have e : xs = xs.take i ++ [v] := by
    have z := List.take_append_drop i xs
    rw [drop_at h, List.drop_of_length_le (by omega)] at z
    exact z.symm
  rw [e]
  exact at_last _ _
theorem levD_succ {vn : List Str} {st : List StepT} {its : List Int} {i : Nat} {ws : List Str} {n d : Int} (h1 : st[i]? = some (ws, some n)) (h2 : its[i]? = some d) : levAt vn ((dyedS st its).take (i + 1)) = movedL vn (levAt vn ((dyedS st its).take i)) ws d := by
  have e : (dyedS st its)[i]? = some (ws, some d) := by
    unfold dyedS
    rw [List.getElem?_zipWith, h1, h2]
  rw [List.take_add_one, e, Option.toList_some, levAt_snoc]
  rfl
theorem taken_none {vn ws : List Str} {n : Int} (hb : stepB vn (some n) ws = true) : ∃ k rest, ws = k :: rest ∧ decide (k ∈ (["fill", "dye"] : List Str)) = decide (takenS ws = none) := by
  obtain ⟨_, hc⟩ := step_cases hb
  rcases hc with ⟨x, hx, rfl | rfl | rfl⟩ | ⟨x, z, hx, hz, _, rfl⟩
  · refine ⟨_, _, rfl, ?_⟩
    rw [takenS_2, if_neg (by decide +kernel)]
    rfl
  · refine ⟨_, _, rfl, ?_⟩
    rw [takenS_2, if_neg (by decide +kernel)]
    rfl
  · refine ⟨_, _, rfl, ?_⟩
    rw [takenS_2, if_pos rfl]
    exact (by decide +kernel : decide (("draw" : Str) ∈ (["fill", "dye"] : List Str)) = false).trans (decide_eq_false (fun z => nomatch z)).symm
  · refine ⟨_, _, rfl, ?_⟩
    exact (by decide +kernel : decide (("pour" : Str) ∈ (["fill", "dye"] : List Str)) = false).trans (decide_eq_false (fun z => nomatch (show some x = none from z))).symm
theorem step_at {vn : List Str} {st : List StepT} {i : Nat} (h : AllSt vn st) (hi : i < st.length) : ∃ ws n, st[i]? = some (ws, some n) ∧ stepB vn (some n) ws = true := by
  have hb := h _ (List.getElem_mem hi)
  obtain ⟨⟨n, e, _⟩, _⟩ := step_cases hb
  refine ⟨st[i].1, n, ?_, ?_⟩
  · rw [List.getElem?_eq_getElem hi, ← e]
  · rw [← e]
    exact hb
theorem zeros (m : Nat) : (List.replicate m [V.int 0]).flatten = iV (List.replicate m 0) := by
  induction m with
  | zero => rfl
  | succ m ih => rw [List.replicate_succ, List.flatten_cons, ih, List.replicate_succ]; rfl
theorem shaped_tupS (ws : List Str) (ok : ∀ w ∈ ws, PyData.strOk w = true) : SeqAt.shaped (.tuple (ws.map PyData.str)) = true := by
  have h2 := deep_strs ws
  have h3 : PyData.depth (.tuple (ws.map PyData.str)) ≤ 64 := by
    simp only [PyData.depth]
    omega
  have h1 : PyData.canLay0 (.tuple (ws.map PyData.str)) = true := by
    simp only [PyData.canLay0]
    exact lay_strs ws ok
  show (PyData.canLay0 (.tuple (ws.map PyData.str)) && decide (PyData.depth (.tuple (ws.map PyData.str)) ≤ 64)) = true
  rw [h1, decide_eq_true h3]
  rfl
theorem eq_mix {K : PySem.W.Frag} {H : Hp} {p p2 : Addr} {Q : VK} (h : SqT K H p [.str "mixing"]) (h2 : SqT K H p2 [.str "mixing"]) (q : Q (.bl true) H) : rEqD K (.ref p) (.ref p2) H Q := by
  have sh := shaped_tupS ["mixing"] (fun w hw => by rw [List.mem_singleton.mp hw]; decide +kernel)
  refine ⟨.tuple [.str "mixing"], .tuple [.str "mixing"], .tup h (dps_strs ["mixing"]), .tup h2 (dps_strs ["mixing"]), sh, sh, ?_⟩
  have e : PyData.eqv (.tuple [.str "mixing"]) (.tuple [.str "mixing"]) = true := by simp [PyData.eqv, PyData.eqvAll]
  rw [e]
  exact q
theorem i_drops {te : TE} {u : TS} {D : Ends} {σ : L2.St} {H : Hp} (h : te σ H fun _ H1 => u D σ H1) : tSeq (tDrop te) u D σ H := h
/-- whether a row keeps a sample -/
def keepS (vn : List Str) (st : List StepT) (its : List Int) : SampT → Bool
  | some (k, some n, ws, some m) => if k = ("is" : Str) then decide (dyeS vn st its ws m = n) else if k = ("least" : Str) then decide (n ≤ dyeS vn st its ws m) else decide (dyeS vn st its ws m ≤ n)
  | _ => true
theorem keepS_some (vn : List Str) (st : List StepT) (its : List Int) (k : Str) (n : Int) (ws : List Str) (m : Int) : keepS vn st its (some (k, some n, ws, some m)) = if k = ("is" : Str) then decide (dyeS vn st its ws m = n) else if k = ("least" : Str) then decide (n ≤ dyeS vn st its ws m) else decide (dyeS vn st its ws m ≤ n) := rfl
def brokeTo (vn : List Str) (st : List StepT) (its : List Int) (sa : List SampT) (i : Nat) : List Nat := (List.range i).filter fun j => !keepS vn st its (sa.getD j none)
theorem brokeTo_succ {vn : List Str} {st : List StepT} {its : List Int} {sa : List SampT} {i : Nat} : brokeTo vn st its sa (i + 1) = brokeTo vn st its sa i ++ (if keepS vn st its (sa.getD i none) then [] else [i]) := by
  unfold brokeTo
  rw [List.range_succ, List.filter_append, List.filter_cons, List.filter_nil]
  congr 1
  show (if (!keepS vn st its (sa.getD i none)) = true then [i] else []) = _
  cases keepS vn st its (sa.getD i none) <;> rfl
theorem brokeTo_len {vn : List Str} {st : List StepT} {its : List Int} {sa : List SampT} {i : Nat} : (brokeTo vn st its sa i).length ≤ i := by
  have z := List.length_filter_le (fun j => !keepS vn st its (sa.getD j none)) (List.range i)
  rw [List.length_range] at z
  exact z
theorem samp_ok {vn : List Str} {many : Int} {z : SampT} (h : sampB vn many z = true) : ∃ k n ws m, z = some (k, some n, ws, some m) ∧ k ∈ (["is", "least", "most"] : List Str) ∧ 0 ≤ n ∧ n ≤ 9999 ∧ spotB vn many (some m) ws = true := by
  rcases z with _ | ⟨k, o1, ws, o2⟩
  · cases h
  · have a : (decide (k ∈ (["is", "least", "most"] : List Str)) && (inO o1 0 9999 && spotB vn many o2 ws)) = true := h
    simp only [Bool.and_eq_true, decide_eq_true_eq] at a
    obtain ⟨a1, a2, a3⟩ := a
    obtain ⟨n, rfl, n0, n1⟩ := inO_get a2
    obtain ⟨m, rfl⟩ := Option.isSome_iff_exists.mp (spot_some a3)
    exact ⟨k, n, ws, m, rfl, a1, n0, n1, a3⟩
def SampsOk (vn : List Str) (st : List StepT) (sa : List SampT) : Prop := ∀ z ∈ sa, sampB vn (st.length : Nat) z = true
def spKeeps (K : PySem.W.Frag) : Sp := fun vs H Q _ => ∃ y t v vn st sa its z, vs = [.ref y, .ref t, v] ∧ YardG K H y vn st sa ∧ AllSt vn st ∧ vn ≠ [] ∧ vn.length ≤ 6 ∧ SqT K H t (iV its) ∧ its.length = st.length ∧ SampV K H v z ∧ sampB vn (st.length : Nat) z = true ∧
  ∀ H', Same H H' → Q (.bl (keepS vn st its z)) H'
def spBroken (K : PySem.W.Frag) : Sp := fun vs H Q _ => ∃ y t vn st sa its, vs = [.ref y, .ref t] ∧ MixAt K H y t vn st sa its ∧ SampsOk vn st sa ∧ ∀ p H', Same H H' → SqT K H' p (nV (brokeTo vn st its sa sa.length)) → Q (.ref p) H'
end Er
set_option Elab.async false
set_option linter.all false
set_option maxRecDepth 100000
set_option maxHeartbeats 4000000
namespace K10
open PySem PySem.Spec PyProof.Rows L2 Er
section
variable {P : Program} {w : World} {K : PySem.W.Frag} {mg : Str → Option Value} {base : Heap} {f : Addr} {fd : FuncData}
theorem sc_Yard___len__ : FnScope ["self"] ["self"] (defScope s_Yard___len__) := ⟨rfl, rfl, rfl, by decide +kernel, rfl, by decide +kernel, by decide +kernel⟩
theorem ok_Yard___len__ (T : Tx K mg) (F : FunD K "__len__" "Yard.__len__" (defArgs s_Yard___len__) (defBody s_Yard___len__) (defScope s_Yard___len__) [] [] f fd) (CL : Cls K (He.ga K "Yard")) (NA : ∀ a ∈ (["vessels", "steps", "samples", "levels"] : List Str), NoAttr K (He.ga K "Yard") a) : FnOk P w K mg base CX0 1 f fd ["self"] (spLenY K) := by
  refine F.ok sc_Yard___len__ (fun vs H Q E h => ?_) (fun cdv A outer s H vs Q E hr h => ?_)
  · obtain ⟨y, vn, st, sa, rfl, hY, q⟩ := h
    rfl
  · obtain ⟨y, vn, st, sa, rfl, hY, q⟩ := h
    refine ⟨_, PSs.nox (pss_one (ps_ret (pe_callB call_len_seq (by rfl) (T.fr "len" (mem_at 8 rfl)) PySem.boot_len (pa_cons (pe_fld (pv 0) rfl) pa_nil)))), ?_⟩
    obtain ⟨dx, fs, a, b, c, d, us, vs, ws, hy, l1, l2, l3, l4, hA, dA, hB, hS, hC, hZ, hD, hL, h14, h6⟩ := hY.open
    refine i_ret (i_cb (i_cons ⟨_, rfl, y, _, dx, fs, _, rfl, hy, CL, NA _ (mem_at 1 rfl), l2, i_nil ⟨b, us, rfl, .inr hB, ?_⟩⟩))
    rw [hS.1]
    exact q _ (Same.refl _)
theorem sc_Yard___contains__ : FnScope ["self", "x"] ["self", "x"] (defScope s_Yard___contains__) := ⟨rfl, rfl, rfl, by decide +kernel, rfl, by decide +kernel, by decide +kernel⟩
theorem ok_Yard___contains__ (T : Tx K mg) (F : FunD K "__contains__" "Yard.__contains__" (defArgs s_Yard___contains__) (defBody s_Yard___contains__) (defScope s_Yard___contains__) [] [] f fd) (CL : Cls K (He.ga K "Yard")) (NA : ∀ a ∈ (["vessels", "steps", "samples", "levels"] : List Str), NoAttr K (He.ga K "Yard") a) : FnOk P w K mg base CX0 1 f fd ["self", "x"] (spConY K) := by
  refine F.ok sc_Yard___contains__ (fun vs H Q E h => ?_) (fun cdv A outer s H vs Q E hr h => ?_)
  · obtain ⟨y, v, vn, st, sa, rfl, hY, q⟩ := h
    rfl
  · obtain ⟨y, v, vn, st, sa, rfl, hY, q⟩ := h
    refine ⟨_, PSs.nox (pss_one (ps_ret (pe_cmpR op_in_seq (pv 1) (pe_fld (pv 0) rfl) (by rfl)))), ?_⟩
    obtain ⟨dx, fs, a, b, c, d, us, vs, ws, hy, l1, l2, l3, l4, hA, dA, hB, hS, hC, hZ, hD, hL, h14, h6⟩ := hY.open
    exact i_ret (i_op ⟨_, rfl, _, rfl, y, _, dx, fs, _, rfl, hy, CL, NA _ (mem_at 0 rfl), l1, r_in (.inr hA) rfl (flat_sV vn) (inV_sV v vn) (q _ (Same.refl _))⟩)
theorem sc_are_integers : FnScope ["value", "many", "part"] ["value", "many"] (defScope s_are_integers) := ⟨rfl, rfl, rfl, by decide +kernel, rfl, by decide +kernel, by decide +kernel⟩
theorem ok_are_integers (T : Tx K mg) (F : FunD K "are_integers" "are_integers" (defArgs s_are_integers) (defBody s_are_integers) (defScope s_are_integers) [] [] f fd) {fdGIi : FuncData} (GIi : FnOk P w K mg base CX0 1 (He.ga K "is_integer") fdGIi ["value"] (spIsInt K)) (GIiF : FnT K "is_integer" s_is_integer fdGIi) (GIiB : Binds K fdGIi ["value"] []) : FnOk P w K mg base CX0 2 f fd ["value", "many"] (spAreI K) := by
  refine F.ok sc_are_integers (fun vs H Q E h => ?_) (fun cdv A outer s H vs Q E hr h => ?_)
  · obtain ⟨t, m, its, rfl, hT, hl, q⟩ := h
    rfl
  · obtain ⟨t, m, its, rfl, hT, hl, q⟩ := h
    have hr_GIi := hr
    refine ⟨_, PSs.nox (pss_one (ps_ret (pe_and (pe_callB call_isi (by rfl) (T.fr "isinstance" (mem_at 7 rfl)) (by decide +kernel) (pa_cons (pv 0) (pa_cons (pe_bltn (v := .ty "tuple") (by rfl) (T.fr "tuple" (mem_at 17 rfl)) (by decide +kernel) rfl) pa_nil))) (pe_and (pe_cmpR op_eq (pe_callB call_len_seq (by rfl) (T.fr "len" (mem_at 8 rfl)) PySem.boot_len (pa_cons (pv 0) pa_nil)) (pv 1) (nomark _)) (pe_one (pe_callB (cr_all rfl) (by rfl) (T.fr "all" (mem_at 1 rfl)) (by decide +kernel) (pa_cons (pe_lc (own := [("part", 2)]) (g := gName 2) (tt := tYes) rfl sc_are_integers.nd (pi_tup (pv 0)) (blkOk_by (N := ["value", "many", "part"]) (sc := defScope s_are_integers) (by decide +kernel)) (fun _ _ _ _ _ => pg_name (i := 2) sc_are_integers.nd rfl (Or.inl rfl)) (fun _ _ _ _ _ => pts_nil) (fun _ _ _ _ _ => (pe_call GIi hr_GIi (by rfl) (T.gd "is_integer" (mem_at 1 rfl)) GIiF.kp GIiB .nil pass0 (pa_cons (pv 2) pa_nil)))) pa_nil))))))), ?_⟩
    have lit : (iV its).length = its.length := List.length_map ..
    have sh : Sh K H (.ref t) (.tuple (its.map PyData.int)) := .tup hT (shAll_iV its)
    refine i_ret (i_andV (i_isi rfl sh (isK_tuple _) ⟨_, rfl, ?_⟩))
    refine i_andV (i_op (i_cb (i_cons (i_var rfl (i_nil ⟨t, _, rfl, .inr hT, ⟨_, rfl, r_eqI ⟨_, rfl, ite2 (fun e => ?_) (fun e => ?_)⟩⟩⟩)))))
    · have e1 : (its.length : Int) = m := by
        have z := of_decide_eq_true e
        rw [lit] at z
        exact z
      have vl : (its.map fun _ => V.bl true).length = (iV its).length := by rw [List.length_map, lit]
      refine i_cb (i_cons (i_lc ⟨_, rfl, t, rfl, ⟨_, hT⟩, fun Dl nD => lr_map walk_tup (its.map fun _ => V.bl true) vl (by rw [lit]; omega) nD (fun _ s => sameT s hT) (fun i y H2 H3 v hv s3 hy Q' kq => ?_) (fun _ _ _ => gName_mono) (fun H2 e6 s3 => ?_)⟩))
      · obtain ⟨rfl, hy⟩ := hy
        unfold iV at hy
        rw [List.getElem?_map] at hv hy
        obtain ⟨z, hz, rfl⟩ := Option.map_eq_some_iff.mp hv
        rw [hz] at hy
        cases Option.some.inj hy
        exact ⟨rfl, i_call (i_cons (i_var rfl (i_nil ⟨.int z, .int z, rfl, .int z, kq _ (Same.refl _)⟩)))⟩
      · refine i_nil ⟨Dl, its.map fun _ => true, rfl, SqL.of (by rw [e6, List.map_map]; rfl), ?_⟩
        have e7 : (its.map fun _ => true).all id = true := by
          rw [List.all_map]
          exact List.all_eq_true.mpr fun _ _ => rfl
        rw [e7, ← decide_eq_true e1]
        exact q _ s3
    · have z : ¬ (its.length : Int) = m := fun y => e (decide_eq_true (by rw [lit]; exact y))
      rw [← decide_eq_false z]
      exact q _ (Same.refl _)
end
end K10
set_option Elab.async false
set_option linter.all false
set_option maxRecDepth 100000
set_option maxHeartbeats 4000000
namespace K10
open PySem PySem.Spec PyProof.Rows L2 Er
section
variable {P : Program} {w : World} {K : PySem.W.Frag} {mg : Str → Option Value} {base : Heap} {f : Addr} {fd : FuncData}
theorem sc_check_spot : FnScope ["yard", "spot"] ["yard", "spot"] (defScope s_check_spot) := ⟨rfl, rfl, rfl, by decide +kernel, rfl, by decide +kernel, by decide +kernel⟩
theorem ok_check_spot (T : Tx K mg) (F : FunD K "check_spot" "check_spot" (defArgs s_check_spot) (defBody s_check_spot) (defScope s_check_spot) [] [] f fd) (OY : OwnY P w K mg base) {fdGSp : FuncData} (GSp : FnOk P w K mg base CX0 3 (He.ga K "is_spot") fdGSp ["value", "vessels", "many"] (spSpot K)) (GSpF : FnT K "is_spot" s_is_spot fdGSp) (GSpB : Binds K fdGSp ["value", "vessels", "many"] []) : FnOk P w K mg base CX0 4 f fd ["yard", "spot"] (spChkS K) := by
  refine F.ok sc_check_spot (fun vs H Q E h => ?_) (fun cdv A outer s H vs Q E hr h => ?_)
  · obtain ⟨y, t, vn, st, sa, ws, m, rfl, hY, hT, hb, q⟩ := h
    rfl
  · obtain ⟨y, t, vn, st, sa, ws, m, rfl, hY, hT, hb, q⟩ := h
    have hr_GSp := hr
    have hr_LY := hr.mono (by decide : 2 ≤ 3)
    refine ⟨_, PSs.nox (pss_one (ps_if (pt_not (pt_val (pe_call GSp hr_GSp (by rfl) (T.gd "is_spot" (mem_at 10 rfl)) GSpF.kp GSpB .nil pass0 (pa_cons (pv 1) (pa_cons (pe_fld (pv 0) rfl) (pa_cons (pe_callB (call_lenY OY hr_LY) (by rfl) (T.fr "len" (mem_at 8 rfl)) PySem.boot_len (pa_cons (pv 0) pa_nil)) pa_nil))))))
        (pss_one ps_never)
        pss_nil)), ?_⟩
    obtain ⟨dx, fs, a, b, c, d, us, vs, lw, hy, l1, l2, l3, l4, hA, dA, hB, hS, hC, hZ, hD, hL, h14, h6⟩ := hY.open
    refine i_if1 (i_not (i_B (i_call (i_cons (i_var rfl (i_cons ⟨_, rfl, y, _, dx, fs, _, rfl, hy, OY.cls, OY.na _ (mem_at 0 rfl), l1, i_cons (i_cb (i_cons (i_var rfl (i_nil (i_lenY hY fun H1 s1 => i_nil ⟨t, a, ws, some m, vn, _, rfl, sameT s1 hT, sameT s1 hA, ?_⟩)))))⟩))))))
    rw [hb]
    exact ⟨_, rfl, iteF (q _ s1)⟩
theorem sc_check_moment : FnScope ["yard", "moment"] ["yard", "moment"] (defScope s_check_moment) := ⟨rfl, rfl, rfl, by decide +kernel, rfl, by decide +kernel, by decide +kernel⟩
theorem ok_check_moment (T : Tx K mg) (F : FunD K "check_moment" "check_moment" (defArgs s_check_moment) (defBody s_check_moment) (defScope s_check_moment) [] [] f fd) (OY : OwnY P w K mg base) {fdGWi : FuncData} (GWi : FnOk P w K mg base CX0 2 (He.ga K "is_within") fdGWi ["value", "low", "high"] (spWithin K)) (GWiF : FnT K "is_within" s_is_within fdGWi) (GWiB : Binds K fdGWi ["value", "low", "high"] []) : FnOk P w K mg base CX0 3 f fd ["yard", "moment"] (spChkM K) := by
  refine F.ok sc_check_moment (fun vs H Q E h => ?_) (fun cdv A outer s H vs Q E hr h => ?_)
  · obtain ⟨y, i, vn, st, sa, rfl, hY, i0, i1, q⟩ := h
    rfl
  · obtain ⟨y, i, vn, st, sa, rfl, hY, i0, i1, q⟩ := h
    have hr_GWi := hr
    have hr_LY := hr.mono (by decide : 2 ≤ 2)
    refine ⟨_, PSs.nox (pss_one (ps_if (pt_not (pt_val (pe_call GWi hr_GWi (by rfl) (T.gd "is_within" (mem_at 2 rfl)) GWiF.kp GWiB .nil pass0 (pa_cons (pv 1) (pa_cons pe_int (pa_cons (pe_callB (call_lenY OY hr_LY) (by rfl) (T.fr "len" (mem_at 8 rfl)) PySem.boot_len (pa_cons (pv 0) pa_nil)) pa_nil))))))
        (pss_one ps_never)
        pss_nil)), ?_⟩
    refine i_if1 (i_not (i_B (i_call (i_cons (i_var rfl (i_cons (i_c (i_cons (i_cb (i_cons (i_var rfl (i_nil (i_lenY hY fun H1 s1 => i_nil ⟨.int i, .int i, 0, _, rfl, .int i, ?_⟩)))))))))))))
    rw [show isWithinD (.int i) 0 ((st.length : Nat) : Int) = true from by
      show (decide (0 ≤ i) && decide (i ≤ ((st.length : Nat) : Int))) = true
      rw [decide_eq_true i0, decide_eq_true i1]
      rfl]
    exact ⟨_, rfl, iteF (q _ s1)⟩
theorem sc_is_row : FnScope ["yard", "value"] ["yard", "value"] (defScope s_is_row) := ⟨rfl, rfl, rfl, by decide +kernel, rfl, by decide +kernel, by decide +kernel⟩
theorem ok_is_row (T : Tx K mg) (F : FunD K "is_row" "is_row" (defArgs s_is_row) (defBody s_is_row) (defScope s_is_row) [] [] f fd) (OY : OwnY P w K mg base) {fdGAi : FuncData} (GAi : FnOk P w K mg base CX0 2 (He.ga K "are_integers") fdGAi ["value", "many"] (spAreI K)) (GAiF : FnT K "are_integers" s_are_integers fdGAi) (GAiB : Binds K fdGAi ["value", "many"] []) : FnOk P w K mg base CX0 3 f fd ["yard", "value"] (spIsRow K) := by
  refine F.ok sc_is_row (fun vs H Q E h => ?_) (fun cdv A outer s H vs Q E hr h => ?_)
  · obtain ⟨y, t, vn, st, sa, its, rfl, hY, hT, hl, q⟩ := h
    rfl
  · obtain ⟨y, t, vn, st, sa, its, rfl, hY, hT, hl, q⟩ := h
    have hr_GAi := hr
    have hr_LY := hr.mono (by decide : 2 ≤ 2)
    refine ⟨_, PSs.nox (pss_one (ps_ret (pe_call GAi hr_GAi (by rfl) (T.gd "are_integers" (mem_at 4 rfl)) GAiF.kp GAiB .nil pass0 (pa_cons (pv 1) (pa_cons (pe_callB (call_lenY OY hr_LY) (by rfl) (T.fr "len" (mem_at 8 rfl)) PySem.boot_len (pa_cons (pv 0) pa_nil)) pa_nil))))), ?_⟩
    exact i_ret (i_call (i_cons (i_var rfl (i_cons (i_cb (i_cons (i_var rfl (i_nil (i_lenY hY fun H1 s1 => i_nil ⟨t, _, its, rfl, sameT s1 hT, hl, fun H2 s2 => q _ (s1.trans s2)⟩)))))))))
theorem sc_room_of : FnScope ["yard", "number", "stand", "step", "given", "place", "unclean"] ["yard", "number", "stand"] (defScope s_room_of) := ⟨rfl, rfl, rfl, by decide +kernel, rfl, by decide +kernel, by decide +kernel⟩
theorem ok_room_of (T : Tx K mg) (F : FunD K "room_of" "room_of" (defArgs s_room_of) (defBody s_room_of) (defScope s_room_of) [] [] f fd) (OY : OwnY P w K mg base) {fdGVt : FuncData} (GVt : FnOk P w K mg base CX0 1 (He.ga K "vessel_taken") fdGVt ["step"] (spTaken K takenS)) (GVtF : FnT K "vessel_taken" s_vessel_taken fdGVt) (GVtB : Binds K fdGVt ["step"] []) : FnOk P w K mg base CX0 2 f fd ["yard", "number", "stand"] (spRoom K) := by
  refine F.ok sc_room_of (fun vs H Q E h => ?_) (fun cdv A outer s H vs Q E hr h => ?_)
  · obtain ⟨y, i, S, vn, st, sa, ws, n, D, rfl, hY, hst, hi, hD0, lD, q⟩ := h
    rfl
  · obtain ⟨y, i, S, vn, st, sa, ws, n, D, rfl, hY, hst, hi, hD0, lD, q⟩ := h
    have hr_GVt := hr
    refine ⟨_, PSs.nox (pss_cons (ps_set (i := 3) sc_room_of.nd rfl (Or.inl rfl) (pe_ix ix_tup (pe_fld (pv 0) rfl) (pv 1) (fun _ _ => rfl)))
      (pss_cons (ps_if (pt_cmpR op_in_seq (pe_ix ix_tup (pv 3) pe_int (fun _ _ => rfl)) (pe_tup (pa_cons pe_str (pa_cons pe_str pa_nil))) (by rfl))
        (pss_cons (ps_set (i := 4) sc_room_of.nd rfl (Or.inl rfl) (pe_ifExp (pt_cmpR op_eq (pe_ix ix_tup (pv 3) pe_int (fun _ _ => rfl)) pe_str (nomark _)) pe_int (pe_ix ix_tup (pv 3) (pe_un un_neg pe_int) (fun _ _ => rfl))))
        (pss_one (ps_ret (pe_tup (pa_cons (pv 4) (pa_cons (pv 4) pa_nil))))))
        pss_nil)
      (pss_cons (ps_set (i := 5) sc_room_of.nd rfl (Or.inl rfl) (pe_tm PySem.F.plainAttrs_tuple PySem.F.slot_tuple_index PySem.F.type_tuple_index mt_tup_index (pe_fld (pv 0) rfl) (pa_cons (pe_call GVt hr_GVt (by rfl) (T.gd "vessel_taken" (mem_at 7 rfl)) GVtF.kp GVtB .nil pass0 (pa_cons (pv 3) pa_nil)) pa_nil)))
      (pss_cons (ps_set (i := 6) sc_room_of.nd rfl (Or.inl rfl) (pe_op op_sub (pe_ix ix_tup (pv 3) (pe_un un_neg pe_int) (fun _ _ => rfl)) (pe_op op_sub (pe_ix ix_tup (pe_ix ix_tup (pe_fld (pv 0) rfl) (pv 1) (fun _ _ => rfl)) (pv 5) (fun _ _ => rfl)) (pe_ix ix_tup (pv 2) (pv 5) (fun _ _ => rfl)))))
      (pss_one (ps_ret (pe_tup (pa_cons (pe_callB (call_max2 rfl) (by rfl) (T.fr "max" (mem_at 10 rfl)) (by decide +kernel) (pa_cons pe_int (pa_cons (pv 6) pa_nil))) (pa_cons (pe_callB (call_min2 rfl) (by rfl) (T.fr "min" (mem_at 11 rfl)) (by decide +kernel) (pa_cons (pe_ix ix_tup (pv 3) (pe_un un_neg pe_int) (fun _ _ => rfl)) (pa_cons (pe_ix ix_tup (pv 2) (pv 5) (fun _ _ => rfl)) pa_nil))) pa_nil))))))))), ?_⟩
    obtain ⟨dx, fs, a, b, c, d, us, vs, lw, hy, l1, l2, l3, l4, hA, dA, hB, hS, hC, hZ, hD, hL, h14, h6⟩ := hY.open
    obtain ⟨r, hr0, hT⟩ := hS.2 i _ hi
    have hil : i < st.length := (List.getElem?_eq_some_iff.mp hi).1
    obtain ⟨rl, hrl, hTl⟩ := hL.at (levs_at (vn := vn) (st := st) (i := i) (by omega))
    have lLv : (levAt vn (st.take i)).length = vn.length := levAt_len
    obtain ⟨⟨n2, en, _⟩, hc⟩ := step_cases (hst _ (List.mem_of_getElem? hi))
    obtain rfl : n = n2 := Option.some.inj en
    have hb := hst _ (List.mem_of_getElem? hi)
    refine i_set (i_op ⟨_, rfl, y, _, dx, fs, _, rfl, hy, OY.cls, OY.na _ (mem_at 1 rfl), l2, _, rfl, r_ixT hB (atI_nat hr0) ?_⟩)
    rcases hc with ⟨x, hx, rfl | rfl | rfl⟩ | ⟨x, z, hx, hz, _, rfl⟩
    · refine i_if0 (i_test (i_op ⟨_, rfl, i_c (r_ixT hT rfl (i_tup2 fun pt npt => r_in (.inr (SqT.of upd_same)) rfl rfl (inV_sV _ ["fill", "dye"]) ⟨_, rfl, ?_⟩))⟩))
      rw [show decide (("fill" : Str) ∈ (["fill", "dye"] : List Str)) = true by decide +kernel]
      have s1 := same_new (o := .tup [.str "fill", .str "dye"]) npt
      have hT1 := sameT s1 hT
      have hy1 := s1 _ _ hy
      generalize upd H pt (.tup [.str "fill", .str "dye"]) = H1 at *
      refine iteT (i_set (i_ifx (i_test (i_op ⟨_, rfl, i_c (r_ixT hT1 rfl (i_c (r_eqS ⟨_, rfl, ?_⟩)))⟩))))
      rw [show decide (("fill" : Str) = "fill") = true by decide +kernel]
      have er : roomL vn ["fill", x] n (levAt vn (st.take i)) D = (0, 0) := by
        unfold roomL
        rw [takenS_2, if_neg (by decide +kernel)]
        exact if_pos rfl
      rw [er] at q
      refine iteT (i_c (i_ret (i_tup (i_cons (i_var rfl (i_cons (i_var rfl (i_nil ⟨by show 2 ≤ sizeLine; decide, fun p np => q p _ (s1.trans (same_new np)) upd_same⟩))))))))
    · refine i_if0 (i_test (i_op ⟨_, rfl, i_c (r_ixT hT rfl (i_tup2 fun pt npt => r_in (.inr (SqT.of upd_same)) rfl rfl (inV_sV _ ["fill", "dye"]) ⟨_, rfl, ?_⟩))⟩))
      rw [show decide (("dye" : Str) ∈ (["fill", "dye"] : List Str)) = true by decide +kernel]
      have s1 := same_new (o := .tup [.str "fill", .str "dye"]) npt
      have hT1 := sameT s1 hT
      have hy1 := s1 _ _ hy
      generalize upd H pt (.tup [.str "fill", .str "dye"]) = H1 at *
      refine iteT (i_set (i_ifx (i_test (i_op ⟨_, rfl, i_c (r_ixT hT1 rfl (i_c (r_eqS ⟨_, rfl, ?_⟩)))⟩))))
      rw [show decide (("dye" : Str) = "fill") = false by decide +kernel]
      have er : roomL vn ["dye", x] n (levAt vn (st.take i)) D = (n, n) := by
        unfold roomL
        rw [takenS_2, if_neg (by decide +kernel)]
        exact if_neg (show ¬ ("dye" : Str) = "fill" by decide +kernel)
      rw [er] at q
      refine iteF ⟨_, rfl, 1, rfl, r_ixT hT1 (at_last (sV ["dye", x]) (.int n)) (i_ret (i_tup (i_cons (i_var rfl (i_cons (i_var rfl (i_nil ⟨by show 2 ≤ sizeLine; decide, fun p np => q p _ (s1.trans (same_new np)) upd_same⟩)))))))⟩
    · refine i_if0 (i_test (i_op ⟨_, rfl, i_c (r_ixT hT rfl (i_tup2 fun pt npt => r_in (.inr (SqT.of upd_same)) rfl rfl (inV_sV _ ["fill", "dye"]) ⟨_, rfl, ?_⟩))⟩))
      rw [show decide (("draw" : Str) ∈ (["fill", "dye"] : List Str)) = false by decide +kernel]
      have s1 := same_new (o := .tup [.str "fill", .str "dye"]) npt
      have hT1 := sameT s1 hT
      have hy1 := s1 _ _ hy
      generalize upd H pt (.tup [.str "fill", .str "dye"]) = H1 at *
      obtain ⟨h1, h2⟩ := idx_at hx
      have hj : vn.idxOf x < vn.length := (List.getElem?_eq_some_iff.mp h1).1
      have et : takenS ["draw", x] = some x := by rw [takenS_2, if_pos rfl]
      refine iteF (i_set ⟨_, rfl, y, _, dx, fs, _, rfl, hy1, OY.cls, OY.na _ (mem_at 0 rfl), l1, ⟨a, rfl, TupD.same s1 dA⟩, i_cons (i_call (i_cons (i_var rfl (i_nil ⟨r, _, some n, vn, rfl, hT1, hb, fun H2 s2 => i_nil ?_⟩))))⟩)
      rw [et]
      have s3 := s1.trans s2
      refine ⟨a, vn, x, _, rfl, rfl, sameT s3 hA, h1, h2, ?_⟩
      refine i_set (i_op ⟨_, rfl, 1, rfl, r_ixT (sameT s2 hT1) (at_last (sV ["draw", x]) (.int n)) (i_op (i_op (i_op ⟨_, rfl, y, _, dx, fs, _, rfl, s2 _ _ hy1, OY.cls, OY.na _ (mem_at 3 rfl), l4, _, rfl, r_ixT (sameT s3 hD) (atI_nat hrl) ⟨_, rfl, r_ixT (sameT s3 hTl) (atI_nat (iV_at (by rw [lLv]; exact hj))) ⟨_, rfl, _, rfl, r_ixT (sameT s3 hD0) (atI_nat (iV_at (by rw [lD]; exact hj))) ⟨_, _, rfl, rfl, ⟨_, _, rfl, rfl, ?_⟩⟩⟩⟩⟩)))⟩)
      have er : roomL vn ["draw", x] n (levAt vn (st.take i)) D = (if (n - ((levAt vn (st.take i)).getD (vn.idxOf x) 0 - D.getD (vn.idxOf x) 0)) > 0 then (n - ((levAt vn (st.take i)).getD (vn.idxOf x) 0 - D.getD (vn.idxOf x) 0)) else 0, if D.getD (vn.idxOf x) 0 < n then D.getD (vn.idxOf x) 0 else n) := by
        unfold roomL
        rw [et]
      rw [er] at q
      refine i_ret (i_tup (i_cons (i_cb (i_cons (i_c (i_cons (i_var rfl (i_nil ⟨_, _, rfl, ?_⟩))))))))
      refine i_cons (i_cb (i_cons ⟨_, rfl, 1, rfl, r_ixT (sameT s2 hT1) (at_last (sV ["draw", x]) (.int n)) (i_cons (i_op ⟨_, rfl, _, rfl, r_ixT (sameT s3 hD0) (atI_nat (iV_at (by rw [lD]; exact hj))) (i_nil ⟨_, _, rfl, i_nil ⟨by show 2 ≤ sizeLine; decide, fun p np => q p _ (s3.trans (same_new np)) upd_same⟩⟩)⟩))⟩))
    · refine i_if0 (i_test (i_op ⟨_, rfl, i_c (r_ixT hT rfl (i_tup2 fun pt npt => r_in (.inr (SqT.of upd_same)) rfl rfl (inV_sV _ ["fill", "dye"]) ⟨_, rfl, ?_⟩))⟩))
      rw [show decide (("pour" : Str) ∈ (["fill", "dye"] : List Str)) = false by decide +kernel]
      have s1 := same_new (o := .tup [.str "fill", .str "dye"]) npt
      have hT1 := sameT s1 hT
      have hy1 := s1 _ _ hy
      generalize upd H pt (.tup [.str "fill", .str "dye"]) = H1 at *
      obtain ⟨h1, h2⟩ := idx_at hx
      have hj : vn.idxOf x < vn.length := (List.getElem?_eq_some_iff.mp h1).1
      have et : takenS ["pour", x, z] = some x := rfl
      refine iteF (i_set ⟨_, rfl, y, _, dx, fs, _, rfl, hy1, OY.cls, OY.na _ (mem_at 0 rfl), l1, ⟨a, rfl, TupD.same s1 dA⟩, i_cons (i_call (i_cons (i_var rfl (i_nil ⟨r, _, some n, vn, rfl, hT1, hb, fun H2 s2 => i_nil ?_⟩))))⟩)
      rw [et]
      have s3 := s1.trans s2
      refine ⟨a, vn, x, _, rfl, rfl, sameT s3 hA, h1, h2, ?_⟩
      refine i_set (i_op ⟨_, rfl, 1, rfl, r_ixT (sameT s2 hT1) (at_last (sV ["pour", x, z]) (.int n)) (i_op (i_op (i_op ⟨_, rfl, y, _, dx, fs, _, rfl, s2 _ _ hy1, OY.cls, OY.na _ (mem_at 3 rfl), l4, _, rfl, r_ixT (sameT s3 hD) (atI_nat hrl) ⟨_, rfl, r_ixT (sameT s3 hTl) (atI_nat (iV_at (by rw [lLv]; exact hj))) ⟨_, rfl, _, rfl, r_ixT (sameT s3 hD0) (atI_nat (iV_at (by rw [lD]; exact hj))) ⟨_, _, rfl, rfl, ⟨_, _, rfl, rfl, ?_⟩⟩⟩⟩⟩)))⟩)
      have er : roomL vn ["pour", x, z] n (levAt vn (st.take i)) D = (if (n - ((levAt vn (st.take i)).getD (vn.idxOf x) 0 - D.getD (vn.idxOf x) 0)) > 0 then (n - ((levAt vn (st.take i)).getD (vn.idxOf x) 0 - D.getD (vn.idxOf x) 0)) else 0, if D.getD (vn.idxOf x) 0 < n then D.getD (vn.idxOf x) 0 else n) := by
        unfold roomL
        rw [et]
      rw [er] at q
      refine i_ret (i_tup (i_cons (i_cb (i_cons (i_c (i_cons (i_var rfl (i_nil ⟨_, _, rfl, ?_⟩))))))))
      refine i_cons (i_cb (i_cons ⟨_, rfl, 1, rfl, r_ixT (sameT s2 hT1) (at_last (sV ["pour", x, z]) (.int n)) (i_cons (i_op ⟨_, rfl, _, rfl, r_ixT (sameT s3 hD0) (atI_nat (iV_at (by rw [lD]; exact hj))) (i_nil ⟨_, _, rfl, i_nil ⟨by show 2 ≤ sizeLine; decide, fun p np => q p _ (s3.trans (same_new np)) upd_same⟩⟩)⟩))⟩))
end
end K10
set_option Elab.async false
set_option linter.all false
set_option maxRecDepth 100000
set_option maxHeartbeats 4000000
namespace K10
open PySem PySem.Spec PyProof.Rows L2 Er
section
variable {P : Program} {w : World} {K : PySem.W.Frag} {mg : Str → Option Value} {base : Heap} {f : Addr} {fd : FuncData}
theorem sc_stand_behind : FnScope ["yard", "number", "stand", "moved"] ["yard", "number", "stand", "moved"] (defScope s_stand_behind) := ⟨rfl, rfl, rfl, by decide +kernel, rfl, by decide +kernel, by decide +kernel⟩
theorem ok_stand_behind (T : Tx K mg) (F : FunD K "stand_behind" "stand_behind" (defArgs s_stand_behind) (defBody s_stand_behind) (defScope s_stand_behind) [] [] f fd) (OY : OwnY P w K mg base) {fdGMo : FuncData} (GMo : FnOk P w K mg base CX0 2 (He.ga K "moved_on") fdGMo ["vessels", "stand", "step", "much"] (spMoved K)) (GMoF : FnT K "moved_on" s_moved_on fdGMo) (GMoB : Binds K fdGMo ["vessels", "stand", "step", "much"] []) : FnOk P w K mg base CX0 3 f fd ["yard", "number", "stand", "moved"] (spBehind K) := by
  refine F.ok sc_stand_behind (fun vs H Q E h => ?_) (fun cdv A outer s H vs Q E hr h => ?_)
  · obtain ⟨y, i, S, m, vn, st, sa, ws, n, D, rfl, hY, hst, v6, hi, hD0, lD, q⟩ := h
    rfl
  · obtain ⟨y, i, S, m, vn, st, sa, ws, n, D, rfl, hY, hst, v6, hi, hD0, lD, q⟩ := h
    have hr_GMo := hr
    refine ⟨_, PSs.nox (pss_one (ps_ret (pe_call GMo hr_GMo (by rfl) (T.gd "moved_on" (mem_at 9 rfl)) GMoF.kp GMoB .nil pass0 (pa_cons (pe_fld (pv 0) rfl) (pa_cons (pv 2) (pa_cons (pe_ix ix_tup (pe_fld (pv 0) rfl) (pv 1) (fun _ _ => rfl)) (pa_cons (pv 3) pa_nil))))))), ?_⟩
    obtain ⟨dx, fs, a, b, c, d, us, vs, lw, hy, l1, l2, l3, l4, hA, dA, hB, hS, hC, hZ, hD, hL, h14, h6⟩ := hY.open
    obtain ⟨r, hr0, hT⟩ := hS.2 i _ hi
    have hb := hst _ (List.mem_of_getElem? hi)
    exact i_ret (i_call (i_cons ⟨_, rfl, y, _, dx, fs, _, rfl, hy, OY.cls, OY.na _ (mem_at 0 rfl), l1, i_cons (i_var rfl (i_cons (i_op ⟨_, rfl, y, _, dx, fs, _, rfl, hy, OY.cls, OY.na _ (mem_at 1 rfl), l2, _, rfl, r_ixT hB (atI_nat hr0) (i_cons (i_var rfl (i_nil ⟨a, S, r, ws, some n, vn, D, m, rfl, hA, dA, hD0, hT, lD, by omega, hb, fun p H' s' e' => q p H' s' e'⟩)))⟩)))⟩))
theorem sc_all_stands : FnScope ["yard", "row", "stands_then", "number", "moved"] ["yard", "row"] (defScope s_all_stands) := ⟨rfl, rfl, rfl, by decide +kernel, rfl, by decide +kernel, by decide +kernel⟩
theorem ok_all_stands (T : Tx K mg) (F : FunD K "all_stands" "all_stands" (defArgs s_all_stands) (defBody s_all_stands) (defScope s_all_stands) [] [] f fd) (OY : OwnY P w K mg base) {fdGSb : FuncData} (GSb : FnOk P w K mg base CX0 3 (He.ga K "stand_behind") fdGSb ["yard", "number", "stand", "moved"] (spBehind K)) (GSbF : FnT K "stand_behind" s_stand_behind fdGSb) (GSbB : Binds K fdGSb ["yard", "number", "stand", "moved"] []) : FnOk P w K mg base CX0 4 f fd ["yard", "row"] (spAllSt K) := by
  refine F.ok sc_all_stands (fun vs H Q E h => ?_) (fun cdv A outer s H vs Q E hr h => ?_)
  · obtain ⟨y, t, vn, st, sa, its, rfl, hY, hst, vne, v6, hT, lT, q⟩ := h
    rfl
  · obtain ⟨y, t, vn, st, sa, its, rfl, hY, hst, vne, v6, hT, lT, q⟩ := h
    have hr_GSb := hr
    refine ⟨_, PSs.nox (pss_cons (ps_set (i := 2) sc_all_stands.nd rfl (Or.inl rfl) (pe_lst (pa_cons (pe_op op_repS (pe_tup (pa_cons pe_int pa_nil)) (pe_callB call_len_seq (by rfl) (T.fr "len" (mem_at 8 rfl)) PySem.boot_len (pa_cons (pe_fld (pv 0) rfl) pa_nil))) pa_nil)))
      (pss_cons (ps_for PassesOwn.never rfl (pi_enumT (by rfl) (T.fr "enumerate" (mem_at 5 rfl)) (pa_cons (pv 1) pa_nil)) (pg_tup rfl (pgs_cons (pg_name (i := 3) sc_all_stands.nd rfl (Or.inl rfl)) (pgs_cons (pg_name (i := 4) sc_all_stands.nd rfl (Or.inl rfl)) pgs_nil)))
        (pss_one (ps_expr (pe_bm PySem.F.plainAttrs_list PySem.F.slot_list_append PySem.F.type_list_append mt_append (pv 2) (pa_cons (pe_call GSb hr_GSb (by rfl) (T.gd "stand_behind" (mem_at 21 rfl)) GSbF.kp GSbB .nil pass0 (pa_cons (pv 0) (pa_cons (pv 3) (pa_cons (pe_ix ix_list (pv 2) (pe_un un_neg pe_int) (fun _ _ => rfl)) (pa_cons (pv 4) pa_nil))))) pa_nil)))))
      (pss_one (ps_ret (pv 2))))), ?_⟩
    obtain ⟨dx, fs, a, b, c, d, us, vs, lw, hy, l1, l2, l3, l4, hA, dA, hB, hS, hC, hZ, hD, hL, h14, h6⟩ := hY.open
    have lit : (iV its).length = its.length := List.length_map ..
    have ldy : (dyedS st its).length = its.length := by rw [dyedS_len, lT, Nat.min_self]
    have v1 : 1 ≤ vn.length := Nat.pos_of_ne_zero (fun z => vne (List.eq_nil_of_length_eq_zero z))
    refine i_set (i_lst (i_cons (i_op (i_tup (i_cons (i_c (i_nil ⟨by show 1 ≤ sizeLine; decide, fun pt nt => ?_⟩)))))))
    have s1 := same_new (o := .tup [.int 0]) nt
    refine i_cb (i_cons ⟨_, rfl, y, _, dx, fs, _, rfl, s1 _ _ hy, OY.cls, OY.na _ (mem_at 0 rfl), l1, i_nil ⟨a, sV vn, rfl, .inr (sameT s1 hA), pt, _, [.int 0], rfl, rfl, SqT.of upd_same, (fun z => nomatch z), ?_, ?_, by decide, fun pz H3 u3 hpz => ?_⟩⟩)
    · rw [sV_len]
      omega
    · rw [sV_len]
      omega
    rw [sV_len, Int.toNat_natCast, zeros] at hpz
    refine i_nil ⟨by show 1 ≤ sizeLine; decide, fun l nl0 => ?_⟩
    have s3 := (s1.trans u3).trans (same_new (o := .lst [.ref pz]) nl0)
    have nl : H l = none := none_back (s1.trans u3) nl0
    have el : (upd H3 l (.lst [.ref pz])) l = some (.lst [.ref pz]) := upd_same
    have hz : SqT K (upd H3 l (.lst [.ref pz])) pz (iV (List.replicate vn.length 0)) := sameT (same_new nl0) hpz
    generalize upd H3 l (.lst [.ref pz]) = H4 at s3 el hz
    refine i_for (i_cons (i_var rfl (i_nil ⟨t, iV its, rfl, sameT s3 hT, ?_⟩)))
    refine fr_it (walk_enumT (K := K) (a := t) (xs := iV its)) (fun i σ H5 => ∃ (zs : List V) (x3 x4 : Option V), σ = [some (.ref y), some (.ref t), some (.ref l), x3, x4] ∧ Same H H5 ∧ H5 l = some (.lst zs) ∧ LevsAt K H5 zs ((List.range (i + 1)).map fun j => levAt vn ((dyedS st its).take j))) ?_ (fun i σ H5 _ hP => ?_) (fun i x σ H5 H6 hi hP hy5 => ?_) (fun σ H5 hP => ?_)
    · exact ⟨[.ref pz], none, none, rfl, s3, el, .cons ⟨pz, rfl, hz⟩ .nil⟩
    · obtain ⟨zs, x3, x4, rfl, s5, _⟩ := hP
      exact sameT s5 hT
    · obtain ⟨zs, x3, x4, rfl, s5, hl, hzs⟩ := hP
      obtain ⟨Tp, u, v, rfl, nT, rfl, hu, hv⟩ := hy5
      cases Option.some.inj hu
      rw [lit] at hi
      have hv2 := Option.some.inj ((show (iV its)[i]? = some v from hv).symm.trans (iV_at hi))
      subst hv2
      have hid : its[i]? = some (its.getD i 0) := by rw [List.getD_eq_getElem?_getD, List.getElem?_eq_getElem hi]; rfl
      obtain ⟨ws, n, hst0, hb⟩ := step_at (vn := vn) (i := i) hst (by omega)
      have s6 := same_new (o := .tup [.int (i : Nat), .int (its.getD i 0)]) nT
      have eD := s6 _ _ hl
      have lzs : zs.length = i + 1 := by
        have z := Paired.length hzs
        rw [List.length_map, List.length_range] at z
        exact z
      obtain ⟨rl, hrl, hTl⟩ := LevsAt.at (i := i) (l := levAt vn ((dyedS st its).take i)) hzs (by
        rw [List.getElem?_map, List.getElem?_range (by omega)]
        rfl)
      have t6 := s5.trans s6
      refine ⟨Tp, _, rfl, SqT.of upd_same, rfl, _, _, rfl, ?_⟩
      refine ⟨_, _, rfl, rfl, ?_⟩
      refine i_drop ⟨_, rfl, .inl ⟨rfl, _, SqL.of eD⟩, i_cons (i_call (i_cons (i_var rfl (i_cons (i_var rfl (i_cons ⟨_, rfl, 1, rfl, l, zs, -1, .ref rl, rfl, rfl, SqL.of eD, at_endL lzs hrl, i_cons (i_var rfl (i_nil ⟨y, i, rl, _, vn, st, sa, ws, n, _, rfl, hY.same t6, hst, v6, hst0, sameT s6 hTl, levAt_len, fun p H7 s7 e7 => ?_⟩))⟩))))))⟩
      have e8 := s7 _ _ eD
      refine i_nil ⟨l, zs, _, rfl, rfl, e8, by rw [lzs]; exact small1000 (by omega), ?_⟩
      refine ⟨zs ++ [.ref p], _, _, rfl, same_mut (t6.trans s7) nl, upd_same, ?_⟩
      have k7 := ((KeepT.of (K := K) (s6.trans s7)).trans (KeepT.put (K := K) (o := .lst (zs ++ [.ref p])) e8))
      rw [List.range_succ, List.map_append]
      refine pr_snoc (x := V.ref p) (y := levAt vn ((dyedS st its).take (i + 1))) (R := LevV K (upd H7 l (.lst (zs ++ [.ref p])))) ⟨p, rfl, (KeepT.put (K := K) e8) _ _ (SqT.of ?_)⟩ (pr_mono (fun v lv ⟨r, e, h⟩ => ⟨r, e, k7 _ _ h⟩) hzs)
      rw [levD_succ hst0 hid]
      exact e7
    · obtain ⟨zs, x3, x4, rfl, s5, hl, hzs⟩ := hP
      rw [lit, ← ldy] at hzs
      exact i_ret (i_var rfl (q _ zs _ s5 hl hzs))
end
end K10
set_option Elab.async false
set_option linter.all false
set_option maxRecDepth 100000
set_option maxHeartbeats 4000000
namespace K10
open PySem PySem.Spec PyProof.Rows L2 Er
section
variable {P : Program} {w : World} {K : PySem.W.Frag} {mg : Str → Option Value} {base : Heap} {f : Addr} {fd : FuncData}
theorem sc_fault_of : FnScope ["yard", "number", "stand", "moved", "step", "least", "most"] ["yard", "number", "stand", "moved"] (defScope s_fault_of) := ⟨rfl, rfl, rfl, by decide +kernel, rfl, by decide +kernel, by decide +kernel⟩
theorem ok_fault_of (T : Tx K mg) (F : FunD K "fault_of" "fault_of" (defArgs s_fault_of) (defBody s_fault_of) (defScope s_fault_of) [] [] f fd) (OY : OwnY P w K mg base) {fdGRo : FuncData} (GRo : FnOk P w K mg base CX0 2 (He.ga K "room_of") fdGRo ["yard", "number", "stand"] (spRoom K)) (GRoF : FnT K "room_of" s_room_of fdGRo) (GRoB : Binds K fdGRo ["yard", "number", "stand"] []) : FnOk P w K mg base CX0 3 f fd ["yard", "number", "stand", "moved"] (spFault K) := by
  refine F.ok sc_fault_of (fun vs H Q E h => ?_) (fun cdv A outer s H vs Q E hr h => ?_)
  · obtain ⟨y, i, S, m, vn, st, sa, ws, n, D, rfl, hY, hst, hi, hD0, lD, q⟩ := h
    rfl
  · obtain ⟨y, i, S, m, vn, st, sa, ws, n, D, rfl, hY, hst, hi, hD0, lD, q⟩ := h
    have hr_GRo := hr
    refine ⟨_, PSs.nox (pss_cons (ps_set (i := 4) sc_fault_of.nd rfl (Or.inl rfl) (pe_ix ix_tup (pe_fld (pv 0) rfl) (pv 1) (fun _ _ => rfl)))
      (pss_cons (ps_asg (pe_call GRo hr_GRo (by rfl) (T.gd "room_of" (mem_at 20 rfl)) GRoF.kp GRoB .nil pass0 (pa_cons (pv 0) (pa_cons (pv 1) (pa_cons (pv 2) pa_nil)))) (pg_tup rfl (pgs_cons (pg_name (i := 5) sc_fault_of.nd rfl (Or.inl rfl)) (pgs_cons (pg_name (i := 6) sc_fault_of.nd rfl (Or.inl rfl)) pgs_nil))))
      (pss_cons (ps_if (PW.pt (pw_or (pt_not (pt_chain op_le op_le pe_int (pv 3) (pe_ix ix_tup (pv 4) (pe_un un_neg pe_int) (fun _ _ => rfl)))) (pw_or1 (PW.pt (pw_and (pt_cmpR op_in_seq (pe_ix ix_tup (pv 4) pe_int (fun _ _ => rfl)) (pe_tup (pa_cons pe_str (pa_cons pe_str pa_nil))) (by rfl)) (pw_and1 (pt_cmpR op_ne (pv 3) (pv 6) (nomark _))))))))
        (pss_one (ps_ret pe_str))
        pss_nil)
      (pss_cons (ps_if (pt_cmpR op_gt (pv 3) (pv 6) (nomark _))
        (pss_one (ps_ret pe_str))
        pss_nil)
      (pss_one (ps_ret (pe_ifExp (pt_cmpR op_lt (pv 3) (pv 5) (nomark _)) pe_str pe_non))))))), ?_⟩
    obtain ⟨dx, fs, a, b, c, d, us, vs, lw, hy, l1, l2, l3, l4, hA, dA, hB, hS, hC, hZ, hD, hL, h14, h6⟩ := hY.open
    obtain ⟨r, hr0, hT⟩ := hS.2 i _ hi
    have hb := hst _ (List.mem_of_getElem? hi)
    obtain ⟨k, rest, rfl, ek⟩ := taken_none hb
    refine i_set (i_op ⟨_, rfl, y, _, dx, fs, _, rfl, hy, OY.cls, OY.na _ (mem_at 1 rfl), l2, _, rfl, r_ixT hB (atI_nat hr0) ?_⟩)
    refine i_asgs (i_call (i_cons (i_var rfl (i_cons (i_var rfl (i_cons (i_var rfl (i_nil ⟨y, i, S, vn, st, sa, k :: rest, n, D, rfl, hY, hst, hi, hD0, lD, fun p H1 s1 e1 => ⟨p, _, rfl, SqT.of e1, rfl, ?_⟩⟩))))))))
    have hT1 := sameT s1 hT
    refine ⟨_, _, rfl, ?_⟩
    refine ⟨_, _, rfl, rfl, ?_⟩
    replace q := fun H2 (z : Same H1 H2) => q H2 (s1.trans z)
    unfold faultL at q
    generalize hlo : (roomL vn (k :: rest) n (levAt vn (st.take i)) D).1 = lo at *
    generalize hhi : (roomL vn (k :: rest) n (levAt vn (st.take i)) D).2 = hg at *
    refine i_if0 (i_or (i_not (i_test ⟨_, rfl, 0, m, rfl, rfl, _, rfl, ite2 (fun e => ?_) (fun e => ?_)⟩)))
    · refine ⟨_, rfl, 1, rfl, r_ixT hT1 (at_last _ _) ⟨_, _, rfl, rfl, _, rfl, ite2 (fun e2 => ?_) (fun e2 => ?_)⟩⟩
      · have z := of_decide_eq_false (bn e2)
        have y := q _ (Same.refl _)
        rw [if_pos (Or.inl fun w => z w.2)] at y
        exact iteT (i_ret (i_c y))
      · have m0 := of_decide_eq_true e
        have m1 := of_decide_eq_true (bt e2)
        refine i_and (i_test (i_op ⟨_, rfl, i_c (r_ixT hT1 (at_0 _ _) (i_tup2 fun pt npt => r_in (.inr (SqT.of upd_same)) rfl rfl (inV_sV _ ["fill", "dye"]) ⟨_, rfl, ?_⟩))⟩))
        have s2 := same_new (o := .tup [.str "fill", .str "dye"]) npt
        generalize upd H1 pt (.tup [.str "fill", .str "dye"]) = H2 at s2
        replace q := q H2 s2
        rw [ek]
        by_cases hn : takenS (k :: rest) = none
        · rw [decide_eq_true hn]
          refine iteT (i_test (i_op ⟨_, rfl, _, rfl, r_neI ⟨_, rfl, ite2 (fun e3 => ?_) (fun e3 => ?_)⟩⟩))
          · have z : m ≠ hg := of_decide_eq_true e3
            rw [if_pos (Or.inr ⟨hn, z⟩)] at q
            exact i_ret (i_c q)
          · have cond : ¬(¬(0 ≤ m ∧ m ≤ n) ∨ takenS (k :: rest) = none ∧ m ≠ hg) := fun z => z.elim (fun z => z ⟨m0, m1⟩) fun z => e3 (decide_eq_true z.2)
            rw [if_neg cond] at q
            refine i_if0 (i_test (i_op ⟨_, rfl, _, rfl, _, _, rfl, rfl, _, rfl, ite2 (fun e4 => ?_) (fun e4 => ?_)⟩))
            · rw [if_pos (of_decide_eq_true e4)] at q
              exact i_ret (i_c q)
            · rw [if_neg (fun z => e4 (decide_eq_true z))] at q
              refine i_ret (i_ifx (i_test (i_op ⟨_, rfl, _, rfl, _, _, rfl, rfl, _, rfl, ite2 (fun e5 => ?_) (fun e5 => ?_)⟩)))
              · rw [if_pos (of_decide_eq_true e5)] at q
                exact i_c q
              · rw [if_neg (fun z => e5 (decide_eq_true z))] at q
                exact i_c q
        · rw [decide_eq_false hn]
          have cond : ¬(¬(0 ≤ m ∧ m ≤ n) ∨ takenS (k :: rest) = none ∧ m ≠ hg) := fun z => z.elim (fun z => z ⟨m0, m1⟩) fun z => hn z.1
          rw [if_neg cond] at q
          refine iteF (iteF ?_)
          refine i_if0 (i_test (i_op ⟨_, rfl, _, rfl, _, _, rfl, rfl, _, rfl, ite2 (fun e4 => ?_) (fun e4 => ?_)⟩))
          · rw [if_pos (of_decide_eq_true e4)] at q
            exact i_ret (i_c q)
          · rw [if_neg (fun z => e4 (decide_eq_true z))] at q
            refine i_ret (i_ifx (i_test (i_op ⟨_, rfl, _, rfl, _, _, rfl, rfl, _, rfl, ite2 (fun e5 => ?_) (fun e5 => ?_)⟩)))
            · rw [if_pos (of_decide_eq_true e5)] at q
              exact i_c q
            · rw [if_neg (fun z => e5 (decide_eq_true z))] at q
              exact i_c q
    · have y := q _ (Same.refl _)
      rw [if_pos (Or.inl fun w => e (decide_eq_true w.1))] at y
      exact ⟨_, rfl, iteT (iteT (i_ret (i_c y)))⟩
end
end K10
set_option Elab.async false
set_option linter.all false
set_option maxRecDepth 100000
set_option maxHeartbeats 4000000
namespace K10
open PySem PySem.Spec PyProof.Rows L2 Er
section
variable {P : Program} {w : World} {K : PySem.W.Frag} {mg : Str → Option Value} {base : Heap} {f : Addr} {fd : FuncData}
theorem sc_judged : FnScope ["yard", "row", "stand", "number", "moved", "fault"] ["yard", "row"] (defScope s_judged) := ⟨rfl, rfl, rfl, by decide +kernel, rfl, by decide +kernel, by decide +kernel⟩
theorem ok_judged (T : Tx K mg) (F : FunD K "judged" "judged" (defArgs s_judged) (defBody s_judged) (defScope s_judged) [] [] f fd) (OY : OwnY P w K mg base) {fdGIr : FuncData} (GIr : FnOk P w K mg base CX0 3 (He.ga K "is_row") fdGIr ["yard", "value"] (spIsRow K)) (GIrF : FnT K "is_row" s_is_row fdGIr) (GIrB : Binds K fdGIr ["yard", "value"] [])
    {fdGFo : FuncData} (GFo : FnOk P w K mg base CX0 3 (He.ga K "fault_of") fdGFo ["yard", "number", "stand", "moved"] (spFault K)) (GFoF : FnT K "fault_of" s_fault_of fdGFo) (GFoB : Binds K fdGFo ["yard", "number", "stand", "moved"] [])
    {fdGSb : FuncData} (GSb : FnOk P w K mg base CX0 3 (He.ga K "stand_behind") fdGSb ["yard", "number", "stand", "moved"] (spBehind K)) (GSbF : FnT K "stand_behind" s_stand_behind fdGSb) (GSbB : Binds K fdGSb ["yard", "number", "stand", "moved"] []) : FnOk P w K mg base CX0 4 f fd ["yard", "row"] (spJudgeM K) := by
  refine F.ok sc_judged (fun vs H Q E h => ?_) (fun cdv A outer s H vs Q E hr h => ?_)
  · obtain ⟨y, t, vn, st, sa, its, rfl, ⟨hY, hst, vne, v6, hT, lT, hM⟩, q⟩ := h
    rfl
  · obtain ⟨y, t, vn, st, sa, its, rfl, ⟨hY, hst, vne, v6, hT, lT, hM⟩, q⟩ := h
    have hr_GIr := hr
    have hr_GFo := hr
    have hr_GSb := hr
    refine ⟨_, PSs.nox (pss_cons (ps_if (pt_not (pt_val (pe_call GIr hr_GIr (by rfl) (T.gd "is_row" (mem_at 24 rfl)) GIrF.kp GIrB .nil pass0 (pa_cons (pv 0) (pa_cons (pv 1) pa_nil)))))
        (pss_one ps_never)
        pss_nil)
      (pss_cons (ps_set (i := 2) sc_judged.nd rfl (Or.inl rfl) (pe_op op_repS (pe_tup (pa_cons pe_int pa_nil)) (pe_callB call_len_seq (by rfl) (T.fr "len" (mem_at 8 rfl)) PySem.boot_len (pa_cons (pe_fld (pv 0) rfl) pa_nil))))
      (pss_cons (ps_for PassesOwn.never rfl (pi_enumT (by rfl) (T.fr "enumerate" (mem_at 5 rfl)) (pa_cons (pv 1) pa_nil)) (pg_tup rfl (pgs_cons (pg_name (i := 3) sc_judged.nd rfl (Or.inl rfl)) (pgs_cons (pg_name (i := 4) sc_judged.nd rfl (Or.inl rfl)) pgs_nil)))
        (pss_cons (ps_set (i := 5) sc_judged.nd rfl (Or.inl rfl) (pe_call GFo hr_GFo (by rfl) (T.gd "fault_of" (mem_at 23 rfl)) GFoF.kp GFoB .nil pass0 (pa_cons (pv 0) (pa_cons (pv 3) (pa_cons (pv 2) (pa_cons (pv 4) pa_nil))))))
        (pss_cons (ps_if (pt_cmpR op_notN (pv 5) pe_non (nomark _))
          (pss_one (ps_ret (pe_tup (pa_cons (pv 5) (pa_cons (pv 3) pa_nil)))))
          pss_nil)
        (pss_one (ps_set (i := 2) sc_judged.nd rfl (Or.inl rfl) (pe_call GSb hr_GSb (by rfl) (T.gd "stand_behind" (mem_at 21 rfl)) GSbF.kp GSbB .nil pass0 (pa_cons (pv 0) (pa_cons (pv 3) (pa_cons (pv 2) (pa_cons (pv 4) pa_nil))))))))))
      (pss_one (ps_ret (pe_tup (pa_cons pe_str pa_nil))))))), ?_⟩
    obtain ⟨dx, fs, a, b, c, d, us, vs, lw, hy, l1, l2, l3, l4, hA, dA, hB, hS, hC, hZ, hD, hL, h14, h6⟩ := hY.open
    have lit : (iV its).length = its.length := List.length_map ..
    have v1 : 1 ≤ vn.length := Nat.pos_of_ne_zero (fun z => vne (List.eq_nil_of_length_eq_zero z))
    refine i_if0 (i_not (i_B (i_call (i_cons (i_var rfl (i_cons (i_var rfl (i_nil ⟨y, t, vn, st, sa, its, rfl, hY, hT, by omega, fun H0 s0 => ⟨_, rfl, ?_⟩⟩))))))))
    rw [decide_eq_true (show (its.length : Int) = (st.length : Nat) by omega)]
    refine iteF (i_set (i_op (i_tup (i_cons (i_c (i_nil ⟨by show 1 ≤ sizeLine; decide, fun pt nt => ?_⟩))))))
    have s1 := s0.trans (same_new (o := .tup [.int 0]) nt)
    refine i_cb (i_cons ⟨_, rfl, y, _, dx, fs, _, rfl, s1 _ _ hy, OY.cls, OY.na _ (mem_at 0 rfl), l1, i_nil ⟨a, sV vn, rfl, .inr (sameT s1 hA), pt, _, [.int 0], rfl, rfl, SqT.of upd_same, (fun z => nomatch z), ?_, ?_, by decide, fun pz H3 u3 hpz => ?_⟩⟩)
    · rw [sV_len]
      omega
    · rw [sV_len]
      omega
    rw [sV_len, Int.toNat_natCast, zeros] at hpz
    have s3 := s1.trans u3
    refine i_for (i_cons (i_var rfl (i_nil ⟨t, iV its, rfl, sameT s3 hT, ?_⟩)))
    refine fr_it (walk_enumT (K := K) (a := t) (xs := iV its)) (fun i σ H5 => ∃ (S : Addr) (x3 x4 x5 : Option V), σ = [some (.ref y), some (.ref t), some (.ref S), x3, x4, x5] ∧ Same H H5 ∧ SqT K H5 S (iV (levAt vn ((dyedS st its).take i)))) ?_ (fun i σ H5 _ hP => ?_) (fun i x σ H5 H6 hi hP hy5 => ?_) (fun σ H5 hP => ?_)
    · exact ⟨pz, none, none, none, rfl, s3, hpz⟩
    · obtain ⟨S, x3, x4, x5, rfl, s5, _⟩ := hP
      exact sameT s5 hT
    · obtain ⟨S, x3, x4, x5, rfl, s5, hS5⟩ := hP
      obtain ⟨Tp, u, v, rfl, nT, rfl, hu, hv⟩ := hy5
      cases Option.some.inj hu
      rw [lit] at hi
      have hv2 := Option.some.inj ((show (iV its)[i]? = some v from hv).symm.trans (iV_at hi))
      subst hv2
      have hid : its[i]? = some (its.getD i 0) := by rw [List.getD_eq_getElem?_getD, List.getElem?_eq_getElem hi]; rfl
      obtain ⟨ws, n, hst0, hb⟩ := step_at (vn := vn) (i := i) hst (by omega)
      have s6 := same_new (o := .tup [.int (i : Nat), .int (its.getD i 0)]) nT
      have t6 := s5.trans s6
      refine ⟨Tp, _, rfl, SqT.of upd_same, rfl, _, _, rfl, ?_⟩
      refine ⟨_, _, rfl, rfl, ?_⟩
      refine i_set (i_call (i_cons (i_var rfl (i_cons (i_var rfl (i_cons (i_var rfl (i_cons (i_var rfl (i_nil ⟨y, i, S, _, vn, st, sa, ws, n, _, rfl, hY.same t6, hst, hst0, sameT s6 hS5, levAt_len, fun H7 s7 => ?_⟩))))))))))
      rw [hM i ws n _ hst0 hid]
      have t7 := t6.trans s7
      refine i_if0 (i_test (i_op ⟨_, rfl, i_c ⟨rfl, _, rfl, iteF ?_⟩⟩))
      refine i_asg (i_call (i_cons (i_var rfl (i_cons (i_var rfl (i_cons (i_var rfl (i_cons (i_var rfl (i_nil ⟨y, i, S, _, vn, st, sa, ws, n, _, rfl, hY.same t7, hst, v6, hst0, sameT (s6.trans s7) hS5, levAt_len, fun p H8 s8 e8 => ?_⟩))))))))))
      refine ⟨p, _, _, _, rfl, t7.trans s8, SqT.of ?_⟩
      rw [levD_succ hst0 hid]
      exact e8
    · obtain ⟨S, x3, x4, x5, rfl, s5, _⟩ := hP
      exact i_ret (i_tup (i_cons (i_c (i_nil ⟨by show 1 ≤ sizeLine; decide, fun p np => q p _ (s5.trans (same_new np)) (SqT.of upd_same)⟩))))
theorem sc_is_mixing : FnScope ["yard", "value"] ["yard", "value"] (defScope s_is_mixing) := ⟨rfl, rfl, rfl, by decide +kernel, rfl, by decide +kernel, by decide +kernel⟩
theorem ok_is_mixing (T : Tx K mg) (F : FunD K "is_mixing" "is_mixing" (defArgs s_is_mixing) (defBody s_is_mixing) (defScope s_is_mixing) [] [] f fd) {fdGIr : FuncData} (GIr : FnOk P w K mg base CX0 3 (He.ga K "is_row") fdGIr ["yard", "value"] (spIsRow K)) (GIrF : FnT K "is_row" s_is_row fdGIr) (GIrB : Binds K fdGIr ["yard", "value"] [])
    {fdGJu : FuncData} (GJu : FnOk P w K mg base CX0 4 (He.ga K "judged") fdGJu ["yard", "row"] (spJudgeM K)) (GJuF : FnT K "judged" s_judged fdGJu) (GJuB : Binds K fdGJu ["yard", "row"] []) : FnOk P w K mg base CX0 5 f fd ["yard", "value"] (spIsMix K) := by
  refine F.ok sc_is_mixing (fun vs H Q E h => ?_) (fun cdv A outer s H vs Q E hr h => ?_)
  · obtain ⟨y, t, vn, st, sa, its, rfl, hM, q⟩ := h
    rfl
  · obtain ⟨y, t, vn, st, sa, its, rfl, hM, q⟩ := h
    have hr_GIr := hr.mono (by decide : 3 ≤ 4)
    have hr_GJu := hr
    refine ⟨_, PSs.nox (pss_one (ps_ret (pe_and (pe_call GIr hr_GIr (by rfl) (T.gd "is_row" (mem_at 24 rfl)) GIrF.kp GIrB .nil pass0 (pa_cons (pv 0) (pa_cons (pv 1) pa_nil))) (pe_one (pe_cmpR (op_eqD hr.units) (pe_call GJu hr_GJu (by rfl) (T.gd "judged" (mem_at 25 rfl)) GJuF.kp GJuB .nil pass0 (pa_cons (pv 0) (pa_cons (pv 1) pa_nil))) (pe_tup (pa_cons pe_str pa_nil)) (nomark _)))))), ?_⟩
    refine i_ret (i_andV (i_call (i_cons (i_var rfl (i_cons (i_var rfl (i_nil ⟨y, t, vn, st, sa, its, rfl, hM.1, hM.2.2.2.2.1, ?_, fun H1 s1 => ⟨_, rfl, ?_⟩⟩)))))))
    · have h14 := hM.1.open
      obtain ⟨_, _, _, _, _, _, _, _, _, _, _, _, _, _, _, _, _, _, _, _, _, _, h14, _⟩ := h14
      have := hM.2.2.2.2.2.1
      omega
    rw [decide_eq_true (show (its.length : Int) = (st.length : Nat) by have := hM.2.2.2.2.2.1; omega)]
    refine iteT (i_op (i_call (i_cons (i_var rfl (i_cons (i_var rfl (i_nil ⟨y, t, vn, st, sa, its, rfl, hM.same s1, fun p H2 s2 hp => ?_⟩)))))))
    refine i_tup (i_cons (i_c (i_nil ⟨by show 1 ≤ sizeLine; decide, fun p2 np => ?_⟩)))
    exact eq_mix (sameT (same_new np) hp) (SqT.of upd_same) (q _ ((s1.trans s2).trans (same_new np)))
theorem sc_check_mixing : FnScope ["yard", "row"] ["yard", "row"] (defScope s_check_mixing) := ⟨rfl, rfl, rfl, by decide +kernel, rfl, by decide +kernel, by decide +kernel⟩
theorem ok_check_mixing (T : Tx K mg) (F : FunD K "check_mixing" "check_mixing" (defArgs s_check_mixing) (defBody s_check_mixing) (defScope s_check_mixing) [] [] f fd) {fdGIm : FuncData} (GIm : FnOk P w K mg base CX0 5 (He.ga K "is_mixing") fdGIm ["yard", "value"] (spIsMix K)) (GImF : FnT K "is_mixing" s_is_mixing fdGIm) (GImB : Binds K fdGIm ["yard", "value"] []) : FnOk P w K mg base CX0 6 f fd ["yard", "row"] (spChkMix K) := by
  refine F.ok sc_check_mixing (fun vs H Q E h => ?_) (fun cdv A outer s H vs Q E hr h => ?_)
  · obtain ⟨y, t, vn, st, sa, its, rfl, hM, q⟩ := h
    rfl
  · obtain ⟨y, t, vn, st, sa, its, rfl, hM, q⟩ := h
    have hr_GIm := hr
    refine ⟨_, PSs.nox (pss_one (ps_if (pt_not (pt_val (pe_call GIm hr_GIm (by rfl) (T.gd "is_mixing" (mem_at 26 rfl)) GImF.kp GImB .nil pass0 (pa_cons (pv 0) (pa_cons (pv 1) pa_nil)))))
        (pss_one ps_never)
        pss_nil)), ?_⟩
    exact i_if1 (i_not (i_B (i_call (i_cons (i_var rfl (i_cons (i_var rfl (i_nil ⟨y, t, vn, st, sa, its, rfl, hM, fun H1 s1 => ⟨_, rfl, iteF (q _ s1)⟩⟩))))))))
end
end K10
set_option Elab.async false
set_option linter.all false
set_option maxRecDepth 100000
set_option maxHeartbeats 4000000
namespace K10
open PySem PySem.Spec PyProof.Rows L2 Er
section
variable {P : Program} {w : World} {K : PySem.W.Frag} {mg : Str → Option Value} {base : Heap} {f : Addr} {fd : FuncData}
theorem sc_dye_of : FnScope ["yard", "row", "spot"] ["yard", "row", "spot"] (defScope s_dye_of) := ⟨rfl, rfl, rfl, by decide +kernel, rfl, by decide +kernel, by decide +kernel⟩
theorem ok_dye_of (T : Tx K mg) (F : FunD K "dye_of" "dye_of" (defArgs s_dye_of) (defBody s_dye_of) (defScope s_dye_of) [] [] f fd) (OY : OwnY P w K mg base) {fdGAs : FuncData} (GAs : FnOk P w K mg base CX0 4 (He.ga K "all_stands") fdGAs ["yard", "row"] (spAllSt K)) (GAsF : FnT K "all_stands" s_all_stands fdGAs) (GAsB : Binds K fdGAs ["yard", "row"] []) : FnOk P w K mg base CX0 5 f fd ["yard", "row", "spot"] (spDyeOf K) := by
  refine F.ok sc_dye_of (fun vs H Q E h => ?_) (fun cdv A outer s H vs Q E hr h => ?_)
  · obtain ⟨y, t, p, vn, st, sa, its, ws, m, rfl, hY, hst, vne, v6, hT, lT, hP, hb, q⟩ := h
    rfl
  · obtain ⟨y, t, p, vn, st, sa, its, ws, m, rfl, hY, hst, vne, v6, hT, lT, hP, hb, q⟩ := h
    have hr_GAs := hr
    refine ⟨_, PSs.nox (pss_cons (ps_if (pt_cmpR op_eq (pe_ix ix_tup (pv 2) pe_int (fun _ _ => rfl)) pe_str (nomark _))
        (pss_one (ps_ret (pe_ix ix_tup (pv 1) (pe_ix ix_tup (pv 2) pe_int (fun _ _ => rfl)) (fun _ _ => rfl))))
        pss_nil)
      (pss_one (ps_ret (pe_ix ix_tup (pe_ix ix_list (pe_call GAs hr_GAs (by rfl) (T.gd "all_stands" (mem_at 22 rfl)) GAsF.kp GAsB .nil pass0 (pa_cons (pv 0) (pa_cons (pv 1) pa_nil))) (pe_ix ix_tup (pv 2) pe_int (fun _ _ => rfl)) (fun _ _ => rfl)) (pe_tm PySem.F.plainAttrs_tuple PySem.F.slot_tuple_index PySem.F.type_tuple_index mt_tup_index (pe_fld (pv 0) rfl) (pa_cons (pe_ix ix_tup (pv 2) pe_int (fun _ _ => rfl)) pa_nil)) (fun _ _ => rfl))))), ?_⟩
    obtain ⟨dx, fs, a, b, c, d, us, vs, lw, hy, l1, l2, l3, l4, hA, dA, hB, hS, hC, hZ, hD, hL, h14, h6⟩ := hY.open
    rcases spot_cases hb with ⟨rfl, m0, m1⟩ | ⟨x, hx, rfl, m0, m1⟩
    · obtain ⟨j, rfl⟩ := Int.eq_ofNat_of_zero_le m0
      refine i_if0 (i_test (i_op ⟨_, rfl, i_c (r_ixT hP rfl (i_c (r_eqS ⟨_, rfl, ?_⟩)))⟩))
      rw [show decide (("by" : Str) = "by") = true by decide +kernel]
      refine iteT (i_ret (i_op ⟨_, rfl, _, rfl, i_c (r_ixT hP rfl (r_ixT hT (atI_nat (iV_at (D := its) (j := j) (by omega))) ?_))⟩))
      exact q _ (Same.refl _)
    · obtain ⟨j, rfl⟩ := Int.eq_ofNat_of_zero_le (show 0 ≤ m by omega)
      obtain ⟨h1, h2⟩ := idx_at hx
      have hj : vn.idxOf x < vn.length := (List.getElem?_eq_some_iff.mp h1).1
      have ldy : (dyedS st its).length = st.length := by rw [dyedS_len, lT, Nat.min_self]
      refine i_if0 (i_test (i_op ⟨_, rfl, i_c (r_ixT hP rfl (i_c (r_eqS ⟨_, rfl, ?_⟩)))⟩))
      rw [show decide (("in" : Str) = "by") = false by decide +kernel]
      refine iteF (i_ret (i_op (i_op (i_call (i_cons (i_var rfl (i_cons (i_var rfl (i_nil ⟨y, t, vn, st, sa, its, rfl, hY, hst, vne, v6, hT, lT, fun pl zs H1 s1 hp hz => ?_⟩)))))))))
      obtain ⟨rl, hrl, hTl⟩ := hz.at (levs_at (vn := vn) (st := dyedS st its) (i := j) (by omega))
      have hxl : vn.idxOf x < (levAt vn ((dyedS st its).take j)).length := by rw [levAt_len]; exact hj
      refine ⟨_, rfl, i_c (r_ixT (sameT s1 hP) rfl ⟨pl, zs, (j : Nat), .ref rl, rfl, rfl, SqL.of hp, atI_nat hrl, ?_⟩)⟩
      exact ⟨_, rfl, y, _, dx, fs, _, rfl, s1 _ _ hy, OY.cls, OY.na _ (mem_at 0 rfl), l1, ⟨a, rfl, TupD.same s1 dA⟩, i_cons ⟨_, rfl, i_c (r_ixT (sameT s1 hP) rfl (i_nil ⟨a, vn, x, _, rfl, rfl, sameT s1 hA, h1, h2, r_ixT hTl (atI_nat (iV_at hxl)) (q _ s1)⟩))⟩⟩
theorem sc_dye : FnScope ["yard", "row", "spot"] ["yard", "row", "spot"] (defScope s_dye) := ⟨rfl, rfl, rfl, by decide +kernel, rfl, by decide +kernel, by decide +kernel⟩
theorem ok_dye (T : Tx K mg) (F : FunD K "dye" "dye" (defArgs s_dye) (defBody s_dye) (defScope s_dye) [] [] f fd) {fdGCm : FuncData} (GCm : FnOk P w K mg base CX0 6 (He.ga K "check_mixing") fdGCm ["yard", "row"] (spChkMix K)) (GCmF : FnT K "check_mixing" s_check_mixing fdGCm) (GCmB : Binds K fdGCm ["yard", "row"] [])
    {fdGCs : FuncData} (GCs : FnOk P w K mg base CX0 4 (He.ga K "check_spot") fdGCs ["yard", "spot"] (spChkS K)) (GCsF : FnT K "check_spot" s_check_spot fdGCs) (GCsB : Binds K fdGCs ["yard", "spot"] [])
    {fdGDo : FuncData} (GDo : FnOk P w K mg base CX0 5 (He.ga K "dye_of") fdGDo ["yard", "row", "spot"] (spDyeOf K)) (GDoF : FnT K "dye_of" s_dye_of fdGDo) (GDoB : Binds K fdGDo ["yard", "row", "spot"] []) : FnOk P w K mg base CX0 7 f fd ["yard", "row", "spot"] (spDyeP K) := by
  refine F.ok sc_dye (fun vs H Q E h => ?_) (fun cdv A outer s H vs Q E hr h => ?_)
  · obtain ⟨y, t, p, vn, st, sa, its, ws, m, rfl, hM, hP, hb, q⟩ := h
    rfl
  · obtain ⟨y, t, p, vn, st, sa, its, ws, m, rfl, hM, hP, hb, q⟩ := h
    have hr_GCm := hr
    have hr_GCs := hr.mono (by decide : 4 ≤ 6)
    have hr_GDo := hr.mono (by decide : 5 ≤ 6)
    refine ⟨_, PSs.nox (pss_cons (ps_expr (pe_call GCm hr_GCm (by rfl) (T.gd "check_mixing" (mem_at 27 rfl)) GCmF.kp GCmB .nil pass0 (pa_cons (pv 0) (pa_cons (pv 1) pa_nil))))
      (pss_cons (ps_expr (pe_call GCs hr_GCs (by rfl) (T.gd "check_spot" (mem_at 16 rfl)) GCsF.kp GCsB .nil pass0 (pa_cons (pv 0) (pa_cons (pv 2) pa_nil))))
      (pss_one (ps_ret (pe_call GDo hr_GDo (by rfl) (T.gd "dye_of" (mem_at 28 rfl)) GDoF.kp GDoB .nil pass0 (pa_cons (pv 0) (pa_cons (pv 1) (pa_cons (pv 2) pa_nil)))))))), ?_⟩
    refine i_drops (i_call (i_cons (i_var rfl (i_cons (i_var rfl (i_nil ⟨y, t, vn, st, sa, its, rfl, hM, fun H1 s1 => ?_⟩))))))
    refine i_drops (i_call (i_cons (i_var rfl (i_cons (i_var rfl (i_nil ⟨y, p, vn, st, sa, ws, m, rfl, hM.1.same s1, sameT s1 hP, hb, fun H2 s2 => ?_⟩))))))
    have s3 := s1.trans s2
    have hM2 := hM.same s3
    exact i_ret (i_call (i_cons (i_var rfl (i_cons (i_var rfl (i_cons (i_var rfl (i_nil ⟨y, t, p, vn, st, sa, its, ws, m, rfl, hM2.1, hM2.2.1, hM2.2.2.1, hM2.2.2.2.1, hM2.2.2.2.2.1, hM2.2.2.2.2.2.1, sameT s3 hP, hb, fun H4 s4 => q H4 (s3.trans s4)⟩))))))))
theorem sc_stands : FnScope ["yard", "row", "moment"] ["yard", "row", "moment"] (defScope s_stands) := ⟨rfl, rfl, rfl, by decide +kernel, rfl, by decide +kernel, by decide +kernel⟩
theorem ok_stands (T : Tx K mg) (F : FunD K "stands" "stands" (defArgs s_stands) (defBody s_stands) (defScope s_stands) [] [] f fd) {fdGCm : FuncData} (GCm : FnOk P w K mg base CX0 6 (He.ga K "check_mixing") fdGCm ["yard", "row"] (spChkMix K)) (GCmF : FnT K "check_mixing" s_check_mixing fdGCm) (GCmB : Binds K fdGCm ["yard", "row"] [])
    {fdGCo : FuncData} (GCo : FnOk P w K mg base CX0 3 (He.ga K "check_moment") fdGCo ["yard", "moment"] (spChkM K)) (GCoF : FnT K "check_moment" s_check_moment fdGCo) (GCoB : Binds K fdGCo ["yard", "moment"] [])
    {fdGAs : FuncData} (GAs : FnOk P w K mg base CX0 4 (He.ga K "all_stands") fdGAs ["yard", "row"] (spAllSt K)) (GAsF : FnT K "all_stands" s_all_stands fdGAs) (GAsB : Binds K fdGAs ["yard", "row"] []) : FnOk P w K mg base CX0 7 f fd ["yard", "row", "moment"] (spStands K) := by
  refine F.ok sc_stands (fun vs H Q E h => ?_) (fun cdv A outer s H vs Q E hr h => ?_)
  · obtain ⟨y, t, i, vn, st, sa, its, rfl, hM, hi, q⟩ := h
    rfl
  · obtain ⟨y, t, i, vn, st, sa, its, rfl, hM, hi, q⟩ := h
    have hr_GCm := hr
    have hr_GCo := hr.mono (by decide : 3 ≤ 6)
    have hr_GAs := hr.mono (by decide : 4 ≤ 6)
    refine ⟨_, PSs.nox (pss_cons (ps_expr (pe_call GCm hr_GCm (by rfl) (T.gd "check_mixing" (mem_at 27 rfl)) GCmF.kp GCmB .nil pass0 (pa_cons (pv 0) (pa_cons (pv 1) pa_nil))))
      (pss_cons (ps_expr (pe_call GCo hr_GCo (by rfl) (T.gd "check_moment" (mem_at 17 rfl)) GCoF.kp GCoB .nil pass0 (pa_cons (pv 0) (pa_cons (pv 2) pa_nil))))
      (pss_one (ps_ret (pe_ix ix_list (pe_call GAs hr_GAs (by rfl) (T.gd "all_stands" (mem_at 22 rfl)) GAsF.kp GAsB .nil pass0 (pa_cons (pv 0) (pa_cons (pv 1) pa_nil))) (pv 2) (fun _ _ => rfl)))))), ?_⟩
    refine i_drops (i_call (i_cons (i_var rfl (i_cons (i_var rfl (i_nil ⟨y, t, vn, st, sa, its, rfl, hM, fun H1 s1 => ?_⟩))))))
    refine i_drops (i_call (i_cons (i_var rfl (i_cons (i_var rfl (i_nil ⟨y, (i : Nat), vn, st, sa, rfl, hM.1.same s1, by omega, by omega, fun H2 s2 => ?_⟩))))))
    have s3 := s1.trans s2
    have hM2 := hM.same s3
    have lT := hM.2.2.2.2.2.1
    have ldy : (dyedS st its).length = st.length := by rw [dyedS_len, lT, Nat.min_self]
    refine i_ret (i_op (i_call (i_cons (i_var rfl (i_cons (i_var rfl (i_nil ⟨y, t, vn, st, sa, its, rfl, hM2.1, hM2.2.1, hM2.2.2.1, hM2.2.2.2.1, hM2.2.2.2.2.1, lT, fun pl zs H4 s4 hp hz => ?_⟩)))))))
    obtain ⟨rl, hrl, hTl⟩ := hz.at (levs_at (vn := vn) (st := dyedS st its) (i := i) (by omega))
    exact ⟨_, rfl, pl, zs, (i : Nat), .ref rl, rfl, rfl, SqL.of hp, atI_nat hrl, q rl _ (s3.trans s4) hTl⟩
end
end K10
set_option Elab.async false
set_option linter.all false
set_option maxRecDepth 100000
set_option maxHeartbeats 4000000
namespace K10
open PySem PySem.Spec PyProof.Rows L2 Er
section
variable {P : Program} {w : World} {K : PySem.W.Frag} {mg : Str → Option Value} {base : Heap} {f : Addr} {fd : FuncData}
theorem sc_keeps : FnScope ["yard", "row", "sample", "word", "number", "spot", "told"] ["yard", "row", "sample"] (defScope s_keeps) := ⟨rfl, rfl, rfl, by decide +kernel, rfl, by decide +kernel, by decide +kernel⟩
theorem ok_keeps (T : Tx K mg) (F : FunD K "keeps" "keeps" (defArgs s_keeps) (defBody s_keeps) (defScope s_keeps) [] [] f fd) {fdGDo : FuncData} (GDo : FnOk P w K mg base CX0 5 (He.ga K "dye_of") fdGDo ["yard", "row", "spot"] (spDyeOf K)) (GDoF : FnT K "dye_of" s_dye_of fdGDo) (GDoB : Binds K fdGDo ["yard", "row", "spot"] []) : FnOk P w K mg base CX0 6 f fd ["yard", "row", "sample"] (spKeeps K) := by
  refine F.ok sc_keeps (fun vs H Q E h => ?_) (fun cdv A outer s H vs Q E hr h => ?_)
  · obtain ⟨y, t, v, vn, st, sa, its, z, rfl, hY, hst, vne, v6, hT, lT, hz, hzb, q⟩ := h
    rfl
  · obtain ⟨y, t, v, vn, st, sa, its, z, rfl, hY, hst, vne, v6, hT, lT, hz, hzb, q⟩ := h
    have hr_GDo := hr
    refine ⟨_, PSs.nox (pss_cons (ps_asg (pv 2) (pg_tup rfl (pgs_cons (pg_name (i := 3) sc_keeps.nd rfl (Or.inl rfl)) (pgs_cons (pg_name (i := 4) sc_keeps.nd rfl (Or.inl rfl)) (pgs_cons (pg_name (i := 5) sc_keeps.nd rfl (Or.inl rfl)) pgs_nil)))))
      (pss_cons (ps_set (i := 6) sc_keeps.nd rfl (Or.inl rfl) (pe_call GDo hr_GDo (by rfl) (T.gd "dye_of" (mem_at 28 rfl)) GDoF.kp GDoB .nil pass0 (pa_cons (pv 0) (pa_cons (pv 1) (pa_cons (pv 5) pa_nil)))))
      (pss_cons (ps_if (pt_cmpR op_eq (pv 3) pe_str (nomark _))
        (pss_one (ps_ret (pe_cmpR op_eq (pv 6) (pv 4) (nomark _))))
        pss_nil)
      (pss_one (ps_ret (pe_ifExp (pt_cmpR op_eq (pv 3) pe_str (nomark _)) (pe_cmpR op_ge (pv 6) (pv 4) (nomark _)) (pe_cmpR op_le (pv 6) (pv 4) (nomark _)))))))), ?_⟩
    obtain ⟨k, n, ws, m, rfl, hk, n0, n1, hb⟩ := samp_ok hzb
    obtain ⟨a3, b3, rfl, h3, hP⟩ := hz
    refine i_asgs (i_var rfl ⟨a3, _, rfl, h3, rfl, ?_⟩)
    refine ⟨_, _, rfl, _, _, rfl, ?_⟩
    refine ⟨_, _, rfl, rfl, ?_⟩
    refine i_set (i_call (i_cons (i_var rfl (i_cons (i_var rfl (i_cons (i_var rfl (i_nil ⟨y, t, b3, vn, st, sa, its, ws, m, rfl, hY, hst, vne, v6, hT, lT, hP, hb, fun H1 s1 => ?_⟩))))))))
    have y1 := q _ s1
    rw [keepS_some] at y1
    refine i_if0 (i_test (i_op ⟨_, rfl, i_c (r_eqS ⟨_, rfl, ite2 (fun e => ?_) (fun e => ?_)⟩)⟩))
    · rw [if_pos (of_decide_eq_true e)] at y1
      exact i_ret (i_op ⟨_, rfl, _, rfl, r_eqI y1⟩)
    · rw [if_neg (fun w => e (decide_eq_true w))] at y1
      refine i_ret (i_ifx (i_test (i_op ⟨_, rfl, i_c (r_eqS ⟨_, rfl, ite2 (fun e2 => ?_) (fun e2 => ?_)⟩)⟩)))
      · rw [if_pos (of_decide_eq_true e2)] at y1
        exact i_op ⟨_, rfl, _, rfl, _, _, rfl, rfl, y1⟩
      · rw [if_neg (fun w => e2 (decide_eq_true w))] at y1
        exact i_op ⟨_, rfl, _, rfl, _, _, rfl, rfl, y1⟩
theorem sc_broken : FnScope ["yard", "row", "number", "sample"] ["yard", "row"] (defScope s_broken) := ⟨rfl, rfl, rfl, by decide +kernel, rfl, by decide +kernel, by decide +kernel⟩
theorem ok_broken (T : Tx K mg) (F : FunD K "broken" "broken" (defArgs s_broken) (defBody s_broken) (defScope s_broken) [] [] f fd) (OY : OwnY P w K mg base) {fdGCm : FuncData} (GCm : FnOk P w K mg base CX0 6 (He.ga K "check_mixing") fdGCm ["yard", "row"] (spChkMix K)) (GCmF : FnT K "check_mixing" s_check_mixing fdGCm) (GCmB : Binds K fdGCm ["yard", "row"] [])
    {fdGKe : FuncData} (GKe : FnOk P w K mg base CX0 6 (He.ga K "keeps") fdGKe ["yard", "row", "sample"] (spKeeps K)) (GKeF : FnT K "keeps" s_keeps fdGKe) (GKeB : Binds K fdGKe ["yard", "row", "sample"] []) : FnOk P w K mg base CX0 7 f fd ["yard", "row"] (spBroken K) := by
  refine F.ok sc_broken (fun vs H Q E h => ?_) (fun cdv A outer s H vs Q E hr h => ?_)
  · obtain ⟨y, t, vn, st, sa, its, rfl, hM, hok, q⟩ := h
    rfl
  · obtain ⟨y, t, vn, st, sa, its, rfl, hM, hok, q⟩ := h
    have hr_GCm := hr
    have hr_GKe := hr
    refine ⟨_, PSs.nox (pss_cons (ps_expr (pe_call GCm hr_GCm (by rfl) (T.gd "check_mixing" (mem_at 27 rfl)) GCmF.kp GCmB .nil pass0 (pa_cons (pv 0) (pa_cons (pv 1) pa_nil))))
      (pss_one (ps_ret (pe_callTy call_tuple_of (by rfl) (T.fr "tuple" (mem_at 17 rfl)) (by decide +kernel) (pa_cons (pe_lc (own := [("number", 2), ("sample", 3)]) (g := gTup K 2 (gCons (gName 2) (gCons (gName 3) gNil))) (tt := tNot (tB (tCall (spKeeps K) [] E0 (tCons (tVar 0) (tCons (tVar 1) (tCons (tVar 3) tNil)))))) rfl sc_broken.nd (pi_enumT (by rfl) (T.fr "enumerate" (mem_at 5 rfl)) (pa_cons (pe_fld (pv 0) rfl) pa_nil)) (blkOk_by (N := ["yard", "row", "number", "sample"]) (sc := defScope s_broken) (by decide +kernel)) (fun _ _ _ _ _ => pg_tup rfl (pgs_cons (pg_name (i := 2) sc_broken.nd rfl (Or.inl rfl)) (pgs_cons (pg_name (i := 3) sc_broken.nd rfl (Or.inl rfl)) pgs_nil))) (fun _ _ _ _ _ => (pts_one (pt_not (pt_val (pe_call GKe hr_GKe (by rfl) (T.gd "keeps" (mem_at 31 rfl)) GKeF.kp GKeB .nil pass0 (pa_cons (pv 0) (pa_cons (pv 1) (pa_cons (pv 3) pa_nil)))))))) (fun _ _ _ _ _ => (pv 2))) pa_nil))))), ?_⟩
    refine i_drops (i_call (i_cons (i_var rfl (i_cons (i_var rfl (i_nil ⟨y, t, vn, st, sa, its, rfl, hM, fun H1 s1 => ?_⟩))))))
    replace hM := hM.same s1
    replace q := fun p H2 (z : Same H1 H2) => q p H2 (s1.trans z)
    obtain ⟨hY, hst, vne, v6, hT, lT, _⟩ := hM
    obtain ⟨dx, fs, a, b, c, d, us, vs, lw, hy, l1, l2, l3, l4, hA, dA, hB, hS, hC, hZ, hD, hL, h14, h6⟩ := hY.open
    have lvs : vs.length = sa.length := hZ.length
    refine i_ret (i_cb (i_cons (i_lc ⟨_, rfl, y, _, dx, fs, _, rfl, hy, OY.cls, OY.na _ (mem_at 2 rfl), l3, i_nil ⟨c, vs, rfl, hC, fun Dl nD => ?_⟩⟩)))
    refine lr_it walk_enumT (fun i H2 => Same H1 H2 ∧ H2 Dl = some (.lst (nV (brokeTo vn st its sa i)))) ⟨same_new nD, upd_same⟩ (fun i H2 _ p => sameT p.1 hC) (fun i x H2 H3 hi p y0 => ?_) (fun H2 p => ?_)
    · obtain ⟨s2, e2⟩ := p
      obtain ⟨Tp, u, v, rfl, nT, rfl, hu, hv⟩ := y0
      cases Option.some.inj hu
      have hi2 : i < sa.length := by omega
      have hz : sa[i]? = some (sa.getD i none) := by rw [List.getD_eq_getElem?_getD, List.getElem?_eq_getElem hi2]; rfl
      obtain ⟨v2, hv2, hzv⟩ := paired_at2 hZ hz
      obtain rfl : v = v2 := Option.some.inj ((show vs[i]? = some v from hv).symm.trans hv2)
      have hzb := hok _ (List.mem_of_getElem? hz)
      have s3 : Same H2 (upd H2 Tp (.tup [.int (i : Nat), v])) := same_new nT
      have t3 := s2.trans s3
      refine ⟨Tp, _, rfl, SqT.of upd_same, rfl, _, _, rfl, ?_⟩
      refine ⟨_, _, rfl, rfl, rfl, ?_⟩
      refine i_not (i_B (i_call (i_cons (i_var rfl (i_cons (i_var rfl (i_cons (i_var rfl (i_nil ⟨y, t, v, vn, st, sa, its, _, rfl, hY.same t3, hst, vne, v6, sameT t3 hT, lT, hzv.same t3, hzb, fun H4 s4 => ⟨_, rfl, ?_⟩⟩)))))))))
      have e4 := s4 _ _ (s3 _ _ e2)
      have t4 := t3.trans s4
      have e5 := brokeTo_succ (vn := vn) (st := st) (its := its) (sa := sa) (i := i)
      cases hk : keepS vn st its (sa.getD i none) with
      | false =>
        rw [hk, if_neg (by decide)] at e5
        refine iteT ⟨_, rfl, _, e4, ?_, same_mut t4 nD, ?_⟩
        · unfold nV
          rw [List.length_map]
          exact Nat.lt_of_le_of_lt (Nat.le_trans brokeTo_len (by omega : i ≤ 1000)) (by decide)
        · rw [upd_same, e5]
          unfold nV
          rw [List.map_append]
          rfl
      | true =>
        rw [hk, if_pos rfl, List.append_nil] at e5
        refine iteF ⟨t4, ?_⟩
        rw [e5]
        exact e4
    · obtain ⟨s2, e2⟩ := p
      rw [lvs] at e2
      exact i_nil ⟨Dl, _, rfl, .inl ⟨SqL.of e2, fun p np => q p _ (s2.trans (same_new np)) (SqT.of upd_same)⟩⟩
end
end K10
set_option Elab.async false
set_option linter.all false
set_option maxRecDepth 100000
set_option maxHeartbeats 4000000
/-! Which steps meet a vessel; where the dye of a spot stays as it is. -/
namespace Er
open PySem PySem.Spec PyProof.Rows L2
def meetsB (v : Str) (ws : List Str) : Bool := decide (takenS ws = some v ∨ broughtS ws = some v)
def meetsAt (v : Str) (st : List StepT) (i : Nat) : Bool := meetsB v (st.getD i ([], none)).1
def metsTo (v : Str) (st : List StepT) (i : Nat) : List Nat := (List.range i).filter (meetsAt v st)
theorem metsTo_succ {v : Str} {st : List StepT} {i : Nat} : metsTo v st (i + 1) = metsTo v st i ++ (if meetsAt v st i = true then [i] else []) := by
  unfold metsTo
  rw [List.range_succ, List.filter_append, List.filter_cons, List.filter_nil]
theorem metsTo_len {v : Str} {st : List StepT} {i : Nat} : (metsTo v st i).length ≤ i := by
  have z := List.length_filter_le (meetsAt v st) (List.range i)
  rw [List.length_range] at z
  exact z
theorem metsTo_mem {v : Str} {st : List StepT} {n i : Nat} : i ∈ metsTo v st n ↔ i < n ∧ meetsAt v st i = true := by
  unfold metsTo
  rw [List.mem_filter, List.mem_range]
theorem inV_nV (i : Int) (ns : List Nat) : inV (.int i) (nV ns) = decide (∃ j : Nat, j ∈ ns ∧ (j : Int) = i) := by
  unfold inV nV
  rw [List.any_map]
  by_cases h : ∃ j : Nat, j ∈ ns ∧ (j : Int) = i
  · rw [decide_eq_true h]
    obtain ⟨j, hj, rfl⟩ := h
    refine List.any_eq_true.mpr ⟨j, hj, ?_⟩
    show ((j : Int) == (j : Int)) = true
    exact beq_self_eq_true _
  · rw [decide_eq_false h]
    refine Bool.eq_false_iff.mpr fun z => h ?_
    obtain ⟨j, hj, e⟩ := List.any_eq_true.mp z
    exact ⟨j, hj, eq_of_beq (show ((j : Int) == i) = true from e)⟩
theorem flat_nV (ns : List Nat) : (nV ns).all flatV = true := by
  induction ns with
  | nil => rfl
  | cons n ns ih => exact ih
theorem flat_optS2 (a b : Option Str) : ([optS a, optS b] : List V).all flatV = true := by
  cases a <;> cases b <;> rfl
theorem inV_opt2 (v : Str) (a b : Option Str) : inV (.str v) [optS a, optS b] = decide (a = some v ∨ b = some v) := by
  have one : ∀ o : Option Str, eqV (optS o) (.str v) = decide (o = some v) := fun o => by
    cases o with
    | none => rfl
    | some x =>
      rw [show eqV (optS (some x)) (.str v) = decide (x = v) from eqV_str x v]
      exact decide_eq_decide.mpr ⟨fun z => by rw [z], fun z => Option.some.inj z⟩
  show (eqV (optS a) (.str v) || (eqV (optS b) (.str v) || false)) = _
  rw [one, one, Bool.or_false, ← Bool.decide_or]
theorem idx_inj {vn : List Str} {a v : Str} (ha : a ∈ vn) (hv : v ∈ vn) (e : vn.idxOf a = vn.idxOf v) : a = v := by
  have h1 := (idx_at ha).1
  have h2 := (idx_at hv).1
  rw [e, h2] at h1
  exact (Option.some.inj h1).symm
theorem setF_ne {g : Int → Int → Int} {ns : List Int} {i j : Nat} {x : Int} (h : i ≠ j) : (setF g ns i x).getD j 0 = ns.getD j 0 := by
  unfold setF
  rw [List.getD_eq_getElem?_getD, List.getElem?_set_ne h]
  exact (List.getD_eq_getElem?_getD ..).symm
/-- a step that does not meet a vessel leaves it as it is -/
theorem unmet {vn : List Str} {L : List Int} {ws : List Str} {o : Option Int} {d : Int} {v : Str} (hb : stepB vn o ws = true) (hv : v ∈ vn) (h : meetsB v ws = false) : (movedL vn L ws d).getD (vn.idxOf v) 0 = L.getD (vn.idxOf v) 0 := by
  have h2 := of_decide_eq_false h
  obtain ⟨h3, h4⟩ := not_or.mp h2
  have sub : (∀ a, takenS ws = some a → a ∈ vn) ∧ ∀ a, broughtS ws = some a → a ∈ vn := by
    obtain ⟨_, hc⟩ := step_cases hb
    rcases hc with ⟨x, hx, rfl | rfl | rfl⟩ | ⟨x, z, hx, hz, _, rfl⟩
    · rw [takenS_2, broughtS_2, if_neg (by decide +kernel), if_neg (by decide +kernel)]
      exact ⟨fun a e => (nomatch e), fun a e => Option.some.inj e ▸ hx⟩
    · rw [takenS_2, broughtS_2, if_neg (by decide +kernel), if_neg (by decide +kernel)]
      exact ⟨fun a e => (nomatch e), fun a e => Option.some.inj e ▸ hx⟩
    · rw [takenS_2, broughtS_2, if_pos rfl, if_pos rfl]
      exact ⟨fun a e => Option.some.inj e ▸ hx, fun a e => (nomatch e)⟩
    · exact ⟨fun a e => Option.some.inj (show some x = some a from e) ▸ hx, fun a e => Option.some.inj (show some z = some a from e) ▸ hz⟩
  unfold movedL
  have e1 : ∀ M : List Int, (bringL vn M d (broughtS ws)).getD (vn.idxOf v) 0 = M.getD (vn.idxOf v) 0 := fun M => by
    cases hw : broughtS ws with
    | none => rfl
    | some a => exact setF_ne fun z => h4 (by rw [hw, idx_inj (sub.2 a hw) hv z])
  rw [e1]
  cases hw : takenS ws with
  | none => rfl
  | some a => exact setF_ne fun z => h3 (by rw [hw, idx_inj (sub.1 a hw) hv z])
theorem still_one {vn : List Str} {st : List StepT} {its : List Int} {i : Nat} {v : Str} (hst : AllSt vn st) (lT : its.length = st.length) (hi : i < st.length) (hv : v ∈ vn) (h : meetsAt v st i = false) :
    (levAt vn ((dyedS st its).take (i + 1))).getD (vn.idxOf v) 0 = (levAt vn ((dyedS st its).take i)).getD (vn.idxOf v) 0 := by
  obtain ⟨ws, n, hs, hb⟩ := step_at hst hi
  have hd : its[i]? = some (its.getD i 0) := by
    rw [List.getD_eq_getElem?_getD, List.getElem?_eq_getElem (by omega)]
    rfl
  rw [levD_succ hs hd]
  refine unmet hb hv ?_
  have e : st.getD i ([], none) = (ws, some n) := by
    rw [List.getD_eq_getElem?_getD, hs]
    rfl
  unfold meetsAt at h
  rw [e] at h
  exact h
/-- over a stretch that no step meets -/
theorem still_all {vn : List Str} {st : List StepT} {its : List Int} {v : Str} (hst : AllSt vn st) (lT : its.length = st.length) (hv : v ∈ vn) {a : Nat} : ∀ k : Nat, a + k ≤ st.length → (∀ i, a ≤ i → i < a + k → meetsAt v st i = false) →
    (levAt vn ((dyedS st its).take (a + k))).getD (vn.idxOf v) 0 = (levAt vn ((dyedS st its).take a)).getD (vn.idxOf v) 0
  | 0, _, _ => rfl
  | k + 1, h1, h2 => by
    rw [show a + (k + 1) = (a + k) + 1 from rfl, still_one hst lT (by omega) hv (h2 (a + k) (by omega) (by omega))]
    exact still_all hst lT hv k (by omega) fun i h3 h4 => h2 i h3 (by omega)
def spMeets (K : PySem.W.Frag) : Sp := fun vs H Q _ => ∃ y v vn st sa, vs = [.ref y, .str v] ∧ YardG K H y vn st sa ∧ AllSt vn st ∧ v ∈ vn ∧ ∀ p H', Same H H' → SqT K H' p (nV (metsTo v st st.length)) → Q (.ref p) H'
/-- spots that are told the same of as this one -/
def SameSpots (vn : List Str) (st : List StepT) (ws : List Str) (m : Int) (L : List StepT) : Prop := ∀ s ∈ L, ∃ m2, s.2 = some m2 ∧ spotB vn (st.length : Nat) (some m2) s.1 = true ∧ ∀ its : List Int, its.length = st.length → dyeS vn st its s.1 m2 = dyeS vn st its ws m
def spStill (K : PySem.W.Frag) : Sp := fun vs H Q _ => ∃ y p vn st sa ws m, vs = [.ref y, .ref p] ∧ YardG K H y vn st sa ∧ AllSt vn st ∧ SqT K H p (wv ws (some m)) ∧ spotB vn (st.length : Nat) (some m) ws = true ∧
  ∀ t xs L H', Same H H' → SqT K H' t xs → StepsAt K H' xs L → L.length ≤ 1000 → SameSpots vn st ws m L → Q (.ref t) H'
theorem i_while {tc : TT} {tb u : TS} {D : Ends} {σ : L2.St} {H : Hp} (W : Nat → L2.St → Hp → Prop) (m0 : Nat) (h0 : W m0 σ H) (h : ∀ m σ H, W m σ H → tc σ H fun b H1 => if b = true then ∃ N : L2.St → Hp → Prop, (∀ σ' H', N σ' H' → ∃ m', m' < m ∧ W m' σ' H') ∧ tb { D with nx := N, ct := N, bk := u D } σ H1 else u D σ H1) : tSeq (tWhile tc tb) u D σ H := ⟨W, ⟨m0, h0⟩, h⟩
theorem i_aug {i : Nat} {te : TE} {ti : TIp} {D : Ends} {σ : L2.St} {H : Hp} {x : V} (e : σ[i]? = some (some x)) (h : te σ H fun y H1 => ti x y H1 fun z H2 => D.nx (σ.set i (some z)) H2) : tAug i te ti D σ H := ⟨x, e, h⟩
theorem and_go {t u : TT} {σ : L2.St} {H : Hp} {Qb : Bool → Hp → Prop} (P1 P2 : Prop) (ht : ∀ Q1 : Bool → Hp → Prop, (∀ b H1, Same H H1 → (b = true → P1) → Q1 b H1) → t σ H Q1) (hu : ∀ H1, Same H H1 → P1 → ∀ Q1 : Bool → Hp → Prop, (∀ b H2, Same H1 H2 → (b = true → P2) → Q1 b H2) → u σ H1 Q1)
    (q : ∀ b H', Same H H' → (b = true → P1 ∧ P2) → Qb b H') : tAnd t u σ H Qb := i_and (ht _ fun b H1 s1 p1 => by
  cases b with
  | false => exact iteF (q false H1 s1 fun e => nomatch e)
  | true => exact iteT (hu H1 s1 (p1 rfl) _ fun b H2 s2 p2 => q b H2 (s1.trans s2) fun e => ⟨p1 rfl, p2 e⟩))
def LowW (H0 : Hp) (y p M : Addr) (x : Str) (st : List StepT) (j : Nat) (k : Nat) (σ : L2.St) (H : Hp) : Prop := σ = [some (.ref y), some (.ref p), some (.str x), some (.int (k : Nat)), some (.int (j : Nat)), some (.ref M), none] ∧ Same H0 H ∧ 1 ≤ k ∧ k ≤ j ∧ ∀ i, k ≤ i → i < j → meetsAt x st i = false
def HighW (H0 : Hp) (y p M : Addr) (x : Str) (st : List StepT) (lo j : Nat) (k : Nat) (σ : L2.St) (H : Hp) : Prop := ∃ hi : Nat, σ = [some (.ref y), some (.ref p), some (.str x), some (.int (lo : Nat)), some (.int (hi : Nat)), some (.ref M), none] ∧ Same H0 H ∧ hi + k = st.length ∧ j ≤ hi ∧ ∀ i, j ≤ i → i < hi → meetsAt x st i = false
def inK (x : Str) (lo k : Nat) : StepT := (["in", x], some ((lo : Int) + (k : Int)))
theorem inK_same {vn : List Str} {st : List StepT} {x : Str} {lo j hi : Nat} (hst : AllSt vn st) (hx : x ∈ vn) (l1 : 1 ≤ lo) (l2 : lo ≤ j) (l3 : j ≤ hi) (l4 : hi ≤ st.length) (un : ∀ i, lo ≤ i → i < hi → meetsAt x st i = false) {n : Nat} (hn : n = hi + 1 - lo) :
    SameSpots vn st ["in", x] (j : Nat) ((List.range n).map (inK x lo)) := by
  intro s hs
  obtain ⟨k, hk, rfl⟩ := List.mem_map.mp hs
  rw [List.mem_range] at hk
  refine ⟨(lo : Int) + (k : Int), rfl, ?_, fun its lT => ?_⟩
  · show (decide (("in" : Str) = ("in" : Str)) && (decide (x ∈ vn) && (decide ((1 : Int) ≤ (lo : Int) + (k : Int)) && decide ((lo : Int) + (k : Int) ≤ ((st.length : Nat) : Int))))) = true
    rw [decide_eq_true hx, decide_eq_true (show (1 : Int) ≤ (lo : Int) + (k : Int) by omega), decide_eq_true (show (lo : Int) + (k : Int) ≤ ((st.length : Nat) : Int) by omega)]
    decide +kernel
  · show (levAt vn ((dyedS st its).take ((lo : Int) + (k : Int)).toNat)).getD (vn.idxOf x) 0 = (levAt vn ((dyedS st its).take ((j : Nat) : Int).toNat)).getD (vn.idxOf x) 0
    rw [show ((lo : Int) + (k : Int)).toNat = lo + k by omega, Int.toNat_natCast, show j = lo + (j - lo) by omega]
    rw [still_all hst lT hx k (by omega) fun i h1 h2 => un i h1 (by omega), still_all hst lT hx (j - lo) (by omega) fun i h1 h2 => un i h1 (by omega)]
end Er
set_option Elab.async false
set_option linter.all false
set_option maxRecDepth 100000
set_option maxHeartbeats 4000000
namespace K10
open PySem PySem.Spec PyProof.Rows L2 Er
section
variable {P : Program} {w : World} {K : PySem.W.Frag} {mg : Str → Option Value} {base : Heap} {f : Addr} {fd : FuncData}
theorem sc_meets : FnScope ["yard", "vessel", "number", "step"] ["yard", "vessel"] (defScope s_meets) := ⟨rfl, rfl, rfl, by decide +kernel, rfl, by decide +kernel, by decide +kernel⟩
theorem ok_meets (T : Tx K mg) (F : FunD K "meets" "meets" (defArgs s_meets) (defBody s_meets) (defScope s_meets) [] [] f fd) (OY : OwnY P w K mg base) {fdGVt : FuncData} (GVt : FnOk P w K mg base CX0 1 (He.ga K "vessel_taken") fdGVt ["step"] (spTaken K takenS)) (GVtF : FnT K "vessel_taken" s_vessel_taken fdGVt) (GVtB : Binds K fdGVt ["step"] [])
    {fdGVb : FuncData} (GVb : FnOk P w K mg base CX0 1 (He.ga K "vessel_brought") fdGVb ["step"] (spTaken K broughtS)) (GVbF : FnT K "vessel_brought" s_vessel_brought fdGVb) (GVbB : Binds K fdGVb ["step"] []) : FnOk P w K mg base CX0 2 f fd ["yard", "vessel"] (spMeets K) := by
  refine F.ok sc_meets (fun vs H Q E h => ?_) (fun cdv A outer s H vs Q E hr h => ?_)
  · obtain ⟨y, v, vn, st, sa, rfl, hY, hst, hv, q⟩ := h
    rfl
  · obtain ⟨y, v, vn, st, sa, rfl, hY, hst, hv, q⟩ := h
    have hr_GVt := hr
    have hr_GVb := hr
    refine ⟨_, PSs.nox (pss_cons (ps_if (pt_cmpR (op_notInY OY hr_GVt) (pv 1) (pv 0) (by rfl))
        (pss_one ps_never)
        pss_nil)
      (pss_one (ps_ret (pe_callTy call_tuple_of (by rfl) (T.fr "tuple" (mem_at 17 rfl)) (by decide +kernel) (pa_cons (pe_lc (own := [("number", 2), ("step", 3)]) (g := gTup K 2 (gCons (gName 2) (gCons (gName 3) gNil))) (tt := tTest (tOp (rIn K false) (tVar 1) (tTup (tCons (tCall (spTaken K takenS) [] E0 (tCons (tVar 3) tNil)) (tCons (tCall (spTaken K broughtS) [] E0 (tCons (tVar 3) tNil)) tNil))))) rfl sc_meets.nd (pi_enumT (by rfl) (T.fr "enumerate" (mem_at 5 rfl)) (pa_cons (pe_fld (pv 0) rfl) pa_nil)) (blkOk_by (N := ["yard", "vessel", "number", "step"]) (sc := defScope s_meets) (by decide +kernel)) (fun _ _ _ _ _ => pg_tup rfl (pgs_cons (pg_name (i := 2) sc_meets.nd rfl (Or.inl rfl)) (pgs_cons (pg_name (i := 3) sc_meets.nd rfl (Or.inl rfl)) pgs_nil))) (fun _ _ _ _ _ => (pts_one (pt_cmpR op_in_seq (pv 1) (pe_tup (pa_cons (pe_call GVt hr_GVt (by rfl) (T.gd "vessel_taken" (mem_at 7 rfl)) GVtF.kp GVtB .nil pass0 (pa_cons (pv 3) pa_nil)) (pa_cons (pe_call GVb hr_GVb (by rfl) (T.gd "vessel_brought" (mem_at 8 rfl)) GVbF.kp GVbB .nil pass0 (pa_cons (pv 3) pa_nil)) pa_nil))) (by rfl)))) (fun _ _ _ _ _ => (pv 2))) pa_nil))))), ?_⟩
    refine i_if0 (i_test (i_op ⟨_, rfl, _, rfl, v, y, vn, st, sa, rfl, rfl, hY, fun H1 s1 => ⟨_, rfl, ?_⟩⟩))
    rw [if_pos rfl, decide_eq_true hv]
    replace hY := hY.same s1
    replace q := fun p H2 (z : Same H1 H2) => q p H2 (s1.trans z)
    refine iteF ?_
    obtain ⟨dx, fs, a, b, c, d, us, vs, lw, hy, l1, l2, l3, l4, hA, dA, hB, hS, hC, hZ, hD, hL, h14, h6⟩ := hY.open
    have lus : us.length = st.length := hS.1
    refine i_ret (i_cb (i_cons (i_lc ⟨_, rfl, y, _, dx, fs, _, rfl, hy, OY.cls, OY.na _ (mem_at 1 rfl), l2, i_nil ⟨b, us, rfl, hB, fun Dl nD => ?_⟩⟩)))
    refine lr_it walk_enumT (fun i H2 => Same H1 H2 ∧ H2 Dl = some (.lst (nV (metsTo v st i)))) ⟨same_new nD, upd_same⟩ (fun i H2 _ p => sameT p.1 hB) (fun i x H2 H3 hi p y0 => ?_) (fun H2 p => ?_)
    · obtain ⟨s2, e2⟩ := p
      obtain ⟨Tp, u, v9, rfl, nT, rfl, hu, hv9⟩ := y0
      cases Option.some.inj hu
      have hi2 : i < st.length := by omega
      obtain ⟨ws, n, hs0, hb⟩ := step_at (vn := vn) hst hi2
      obtain ⟨r, hr1, hT⟩ := hS.2 i _ hs0
      obtain rfl : v9 = .ref r := Option.some.inj ((show us[i]? = some v9 from hv9).symm.trans hr1)
      have s3 : Same H2 (upd H2 Tp (.tup [.int (i : Nat), .ref r])) := same_new nT
      have t3 := s2.trans s3
      have em : meetsAt v st i = decide (takenS ws = some v ∨ broughtS ws = some v) := by
        unfold meetsAt meetsB
        rw [List.getD_eq_getElem?_getD, hs0]
        rfl
      have e5 := metsTo_succ (v := v) (st := st) (i := i)
      refine ⟨Tp, _, rfl, SqT.of upd_same, rfl, _, _, rfl, ?_⟩
      refine ⟨_, _, rfl, rfl, rfl, ?_⟩
      refine i_test (i_op ⟨_, rfl, i_tup (i_cons (i_call (i_cons (i_var rfl (i_nil ⟨r, ws, some n, vn, rfl, sameT t3 hT, hb, fun H4 s4 => i_cons (i_call (i_cons (i_var rfl (i_nil ⟨r, ws, some n, vn, rfl, sameT (t3.trans s4) hT, hb, fun H5 s5 => i_nil ⟨by show 2 ≤ sizeLine; decide, fun pt npt => ?_⟩⟩))))⟩)))))⟩)
      have s6 := ((s3.trans s4).trans s5).trans (same_new (o := .tup [optS (takenS ws), optS (broughtS ws)]) npt)
      refine r_in (.inr (SqT.of upd_same)) rfl (flat_optS2 _ _) (inV_opt2 v _ _) ⟨_, rfl, ?_⟩
      rw [← em]
      have e6 := s6 _ _ e2
      cases hk : meetsAt v st i with
      | true =>
        rw [hk, if_pos rfl] at e5
        refine iteT ⟨_, rfl, _, e6, ?_, same_mut (s2.trans s6) nD, ?_⟩
        · unfold nV
          rw [List.length_map]
          exact Nat.lt_of_le_of_lt (Nat.le_trans metsTo_len (by omega : i ≤ 1000)) (by decide)
        · rw [upd_same, e5]
          unfold nV
          rw [List.map_append]
          rfl
      | false =>
        rw [hk, if_neg (by decide), List.append_nil] at e5
        refine iteF ⟨s2.trans s6, ?_⟩
        rw [e5]
        exact e6
    · obtain ⟨s2, e2⟩ := p
      rw [lus] at e2
      exact i_nil ⟨Dl, _, rfl, .inl ⟨SqL.of e2, fun p np => q p _ (s2.trans (same_new np)) (SqT.of upd_same)⟩⟩
end
end K10
set_option Elab.async false
set_option linter.all false
set_option maxRecDepth 100000
set_option maxHeartbeats 4000000
namespace K10
open PySem PySem.Spec PyProof.Rows L2 Er
section
variable {P : Program} {w : World} {K : PySem.W.Frag} {mg : Str → Option Value} {base : Heap} {f : Addr} {fd : FuncData}
theorem sc_still : FnScope ["yard", "spot", "vessel", "low", "high", "met", "moment"] ["yard", "spot"] (defScope s_still) := ⟨rfl, rfl, rfl, by decide +kernel, rfl, by decide +kernel, by decide +kernel⟩
theorem ok_still (T : Tx K mg) (F : FunD K "still" "still" (defArgs s_still) (defBody s_still) (defScope s_still) [] [] f fd) (OY : OwnY P w K mg base) {fdGCs : FuncData} (GCs : FnOk P w K mg base CX0 4 (He.ga K "check_spot") fdGCs ["yard", "spot"] (spChkS K)) (GCsF : FnT K "check_spot" s_check_spot fdGCs) (GCsB : Binds K fdGCs ["yard", "spot"] [])
    {fdGMe : FuncData} (GMe : FnOk P w K mg base CX0 2 (He.ga K "meets") fdGMe ["yard", "vessel"] (spMeets K)) (GMeF : FnT K "meets" s_meets fdGMe) (GMeB : Binds K fdGMe ["yard", "vessel"] []) : FnOk P w K mg base CX0 5 f fd ["yard", "spot"] (spStill K) := by
  refine F.ok sc_still (fun vs H Q E h => ?_) (fun cdv A outer s H vs Q E hr h => ?_)
  · obtain ⟨y, p, vn, st, sa, ws, m, rfl, hY, hst, hP, hb, q⟩ := h
    rfl
  · obtain ⟨y, p, vn, st, sa, ws, m, rfl, hY, hst, hP, hb, q⟩ := h
    have hr_GCs := hr
    have hr_GMe := hr.mono (by decide : 2 ≤ 4)
    have hr_LY := hr.mono (by decide : 2 ≤ 4)
    refine ⟨_, PSs.nox (pss_cons (ps_expr (pe_call GCs hr_GCs (by rfl) (T.gd "check_spot" (mem_at 16 rfl)) GCsF.kp GCsB .nil pass0 (pa_cons (pv 0) (pa_cons (pv 1) pa_nil))))
      (pss_cons (ps_if (pt_cmpR op_eq (pe_ix ix_tup (pv 1) pe_int (fun _ _ => rfl)) pe_str (nomark _))
        (pss_one (ps_ret (pe_tup (pa_cons (pv 1) pa_nil))))
        pss_nil)
      (pss_cons (ps_asg (pe_tup (pa_cons (pe_ix ix_tup (pv 1) pe_int (fun _ _ => rfl)) (pa_cons (pe_ix ix_tup (pv 1) pe_int (fun _ _ => rfl)) (pa_cons (pe_ix ix_tup (pv 1) pe_int (fun _ _ => rfl)) pa_nil)))) (pg_tup rfl (pgs_cons (pg_name (i := 2) sc_still.nd rfl (Or.inr rfl)) (pgs_cons (pg_name (i := 3) sc_still.nd rfl (Or.inl rfl)) (pgs_cons (pg_name (i := 4) sc_still.nd rfl (Or.inl rfl)) pgs_nil)))))
      (pss_cons (ps_set (i := 5) sc_still.nd rfl (Or.inl rfl) (pe_call GMe hr_GMe (by rfl) (T.gd "meets" (mem_at 18 rfl)) GMeF.kp GMeB .nil pass0 (pa_cons (pv 0) (pa_cons (pv 2) pa_nil))))
      (pss_cons (ps_while PassesOwn.never (PW.pt (pw_and (pt_cmpR op_gt (pv 3) pe_int (nomark _)) (pw_and1 (pt_cmpR op_notIn_seq (pe_op op_sub (pv 3) pe_int) (pv 5) (by rfl)))))
        (pss_one (ps_aug (i := 3) sc_still.nd rfl (Or.inl rfl) pe_int ip_sub)))
      (pss_cons (ps_while PassesOwn.never (PW.pt (pw_and (pt_cmpR op_lt (pv 4) (pe_callB (call_lenY OY hr_LY) (by rfl) (T.fr "len" (mem_at 8 rfl)) PySem.boot_len (pa_cons (pv 0) pa_nil)) (nomark _)) (pw_and1 (pt_cmpR op_notIn_seq (pv 4) (pv 5) (by rfl)))))
        (pss_one (ps_aug (i := 4) sc_still.nd rfl (Or.inl rfl) pe_int ip_add)))
      (pss_one (ps_ret (pe_callTy call_tuple_of (by rfl) (T.fr "tuple" (mem_at 17 rfl)) (by decide +kernel) (pa_cons (pe_lc (own := [("moment", 6)]) (g := gName 6) (tt := tYes) rfl sc_still.nd (pi_range2 (by rfl) (T.fr "range" (mem_at 12 rfl)) (pa_cons (pv 3) (pa_cons (pe_op op_add (pv 4) pe_int) pa_nil))) (blkOk_by (N := ["yard", "spot", "vessel", "low", "high", "met", "moment"]) (sc := defScope s_still) (by decide +kernel)) (fun _ _ _ _ _ => pg_name (i := 6) sc_still.nd rfl (Or.inl rfl)) (fun _ _ _ _ _ => pts_nil) (fun _ _ _ _ _ => (pe_tup (pa_cons pe_str (pa_cons (pv 2) (pa_cons (pv 6) pa_nil)))))) pa_nil)))))))))), ?_⟩
    refine i_drops (i_call (i_cons (i_var rfl (i_cons (i_var rfl (i_nil ⟨y, p, vn, st, sa, ws, m, rfl, hY, hP, hb, fun H1 s1 => ?_⟩))))))
    have hP1 := sameT s1 hP
    have hY1 := hY.same s1
    rcases spot_cases hb with ⟨rfl, m0, m1⟩ | ⟨x, hx, rfl, m0, m1⟩
    · refine i_if0 (i_test (i_op ⟨_, rfl, i_c (r_ixT hP1 rfl (i_c (r_eqS ⟨_, rfl, ?_⟩)))⟩))
      rw [show decide (("by" : Str) = "by") = true by decide +kernel]
      refine iteT (i_ret (i_tup (i_cons (i_var rfl (i_nil ⟨by show 1 ≤ sizeLine; decide, fun pt np => ?_⟩)))))
      refine q pt [.ref p] [(["by"], some m)] _ (s1.trans (same_new np)) (SqT.of upd_same) ⟨rfl, fun i s e => ?_⟩ (show 1 ≤ 1000 by decide) fun s hs => ?_
      · cases i with
        | zero =>
          cases e
          exact ⟨p, rfl, sameT (same_new np) hP1⟩
        | succ i => cases e
      · rw [List.mem_singleton.mp hs]
        exact ⟨m, rfl, hb, fun its _ => rfl⟩
    · obtain ⟨j, rfl⟩ := Int.eq_ofNat_of_zero_le (show 0 ≤ m by omega)
      refine i_if0 (i_test (i_op ⟨_, rfl, i_c (r_ixT hP1 rfl (i_c (r_eqS ⟨_, rfl, ?_⟩)))⟩))
      rw [show decide (("in" : Str) = "by") = false by decide +kernel]
      refine iteF (i_asgs (i_tup (i_cons ⟨_, rfl, i_c (r_ixT hP1 rfl (i_cons ⟨_, rfl, i_c (r_ixT hP1 rfl (i_cons ⟨_, rfl, i_c (r_ixT hP1 rfl (i_nil ⟨by show 3 ≤ sizeLine; decide, fun pt npt => ⟨pt, _, rfl, SqT.of upd_same, rfl, ?_⟩⟩))⟩))⟩))⟩)))
      refine ⟨_, _, rfl, _, _, rfl, ?_⟩
      refine ⟨_, _, rfl, rfl, ?_⟩
      have s1 := s1.trans (same_new (o := .tup [.str x, .int (j : Nat), .int (j : Nat)]) npt)
      have hY1 := hY.same s1
      refine i_set (i_call (i_cons (i_var rfl (i_cons (i_var rfl (i_nil ⟨y, x, vn, st, sa, rfl, hY1, hst, hx, fun M H2 s2 hM => ?_⟩))))))
      have h14 : st.length ≤ 14 := by
        obtain ⟨_, _, _, _, _, _, _, _, _, _, _, _, _, _, _, _, _, _, _, _, _, _, h, _⟩ := hY.open
        exact h
      replace hY1 := hY1.same s2
      have s12 := s1.trans s2
      refine i_while (LowW H2 y p M x st j) j ⟨rfl, Same.refl _, by omega, Nat.le_refl _, fun i h3 h4 => absurd h3 (by omega)⟩ fun lo σ H3 hW => ?_
      obtain ⟨rfl, s3, l1, l2, un⟩ := hW
      refine and_go (1 < lo) (meetsAt x st (lo - 1) = false) (fun Q1 k => ?_) (fun H4 s4 p1 Q1 k => ?_) (fun b H4 s4 pb => ?_)
      · exact i_test (i_op ⟨_, rfl, i_c ⟨_, _, rfl, rfl, _, rfl, k _ _ (Same.refl _) fun e => (by have := of_decide_eq_true e; omega)⟩⟩)
      · refine i_test (i_op (i_op ⟨_, rfl, i_c ⟨_, _, rfl, rfl, _, rfl, r_nin (.inr (sameT (s3.trans s4) hM)) rfl (flat_nV _) (inV_nV _ _) ⟨_, rfl, k _ _ (Same.refl _) fun e => ?_⟩⟩⟩))
        have e2 := of_decide_eq_false (bn e)
        cases h : meetsAt x st (lo - 1) with
        | false => rfl
        | true => exact absurd ⟨lo - 1, metsTo_mem.mpr ⟨by omega, h⟩, by omega⟩ e2
      have s34 := s3.trans s4
      cases b with
      | true =>
        obtain ⟨p1, p2⟩ := pb rfl
        refine iteT ⟨fun σ' H' => LowW H2 y p M x st j (lo - 1) σ' H', fun σ' H' h => ⟨lo - 1, by omega, h⟩, i_aug rfl (i_c ⟨_, _, rfl, rfl, ?_, s34, by omega, by omega, fun i h3 h4 => ?_⟩)⟩
        · show _ = [some (V.ref y), some (V.ref p), some (V.str x), some (V.int ((lo - 1 : Nat) : Int)), some (V.int (j : Nat)), some (V.ref M), none]
          rw [show ((lo - 1 : Nat) : Int) = (lo : Int) - 1 by omega]
          rfl
        · by_cases hq : i = lo - 1
          · rw [hq]
            exact p2
          · exact un i (by omega) h4
      | false =>
        clear pb
        refine iteF (i_while (HighW H2 y p M x st lo j) (st.length - j) ⟨j, rfl, s34, by omega, Nat.le_refl _, fun i h3 h4 => absurd h3 (by omega)⟩ fun k9 σ H5 hW => ?_)
        obtain ⟨hi, rfl, s5, l3, l4, un2⟩ := hW
        refine and_go (hi < st.length) (meetsAt x st hi = false) (fun Q1 k => ?_) (fun H6 s6 p1 Q1 k => ?_) (fun b H6 s6 pb => ?_)
        · exact i_test (i_op ⟨_, rfl, i_cb (i_cons (i_var rfl (i_nil (i_lenY (hY1.same s5) fun H7 s7 => ⟨_, _, rfl, rfl, _, rfl, k _ _ s7 fun e => (by have := of_decide_eq_true e; omega)⟩))))⟩)
        · refine i_test (i_op ⟨_, rfl, _, rfl, r_nin (.inr (sameT (s5.trans s6) hM)) rfl (flat_nV _) (inV_nV _ _) ⟨_, rfl, k _ _ (Same.refl _) fun e => ?_⟩⟩)
          have e2 := of_decide_eq_false (bn e)
          cases h : meetsAt x st hi with
          | false => rfl
          | true => exact absurd ⟨hi, metsTo_mem.mpr ⟨by omega, h⟩, rfl⟩ e2
        have s56 := s5.trans s6
        cases b with
        | true =>
          obtain ⟨p1, p2⟩ := pb rfl
          refine iteT ⟨fun σ' H' => HighW H2 y p M x st lo j (k9 - 1) σ' H', fun σ' H' h => ⟨k9 - 1, by omega, h⟩, i_aug rfl (i_c ⟨_, _, rfl, rfl, hi + 1, ?_, s56, by omega, by omega, fun i h3 h4 => ?_⟩)⟩
          · rw [show ((hi + 1 : Nat) : Int) = (hi : Int) + 1 by omega]
            rfl
          · by_cases hq : i = hi
            · rw [hq]
              exact p2
            · exact un2 i h3 (by omega)
        | false =>
          clear pb
          refine iteF (i_ret (i_cb (i_cons (i_lc (i_cons (i_var rfl (i_cons (i_op ⟨_, rfl, i_c ⟨_, _, rfl, rfl, i_nil ⟨_, _, rfl, ⟨by omega, by omega, by omega, by omega⟩, fun Dl nD => ?_⟩⟩⟩))))))))
          have en : (((hi : Nat) : Int) + 1 - ((lo : Nat) : Int)).toNat = hi + 1 - lo := by omega
          dsimp only
          rw [en]
          refine lr_range (n := hi + 1 - lo) (fun i H' => Same H6 H' ∧ ∃ acc, H' Dl = some (.lst acc) ∧ StepsAt K H' acc ((List.range i).map (inK x lo))) ?_ (fun i H' hi9 hI => ?_) (fun H' hI => ?_)
          · exact ⟨same_new nD, [], upd_same, StepsAt.nil⟩
          · obtain ⟨s7, acc, eD, hA⟩ := hI
            refine ⟨rfl, i_yes (iteT (i_tup (i_cons (i_c (i_cons (i_var rfl (i_cons (i_var rfl (i_nil ⟨by show 3 ≤ sizeLine; decide, fun pt npt => ?_⟩)))))))))⟩
            have s8 := same_new (o := .tup [.str "in", .str x, .int ((lo : Int) + (i : Int))]) npt
            have eD2 := s8 _ _ eD
            have la := hA.1
            rw [List.length_map, List.length_range] at la
            have k := (KeepT.of s8).trans (KeepT.put (K := K) (o := .lst (acc ++ [.ref pt])) eD2)
            refine ⟨acc, eD2, by rw [la]; exact small1000 (by omega), same_mut (s7.trans s8) nD, acc ++ [.ref pt], upd_same, ?_⟩
            rw [List.range_succ, List.map_append]
            exact (hA.keep k).snoc (z := inK x lo i) ((KeepT.put (K := K) eD2) _ _ (SqT.of upd_same))
          · obtain ⟨s7, acc, eD, hA⟩ := hI
            have s9 := s12.trans (s56.trans s7)
            exact i_nil ⟨Dl, _, rfl, .inl ⟨SqL.of eD, fun p2 np => q p2 acc _ _ (s9.trans (same_new np)) (SqT.of upd_same) (hA.keep (KeepT.of (same_new np))) (by rw [List.length_map, List.length_range]; omega) (inK_same hst hx l1 l2 l4 (by omega) (fun i h3 h4 => if h5 : i < j then un i h3 h5 else un2 i (by omega) h4) rfl)⟩⟩
end
end K10
set_option Elab.async false
set_option linter.all false
set_option maxRecDepth 100000
set_option maxHeartbeats 4000000
/-! Samples drawn for a drawn yard. -/
namespace Er
open PySem PySem.Spec PyProof.Rows L2 TL
def stepD (s : StepT) : PyData := .tuple (wD s.1 s.2)
theorem StepsAt.tail {K : PySem.W.Frag} {H : Hp} {v : V} {vs : List V} {s : StepT} {st : List StepT} (h : StepsAt K H (v :: vs) (s :: st)) : StepsAt K H vs st := by
  refine ⟨?_, fun i z hz => ?_⟩
  · have z := h.1
    simp only [List.length_cons] at z
    omega
  · obtain ⟨r, h1, h2⟩ := h.2 (i + 1) z (by simpa using hz)
    exact ⟨r, by simpa using h1, h2⟩
theorem dp_steps {K : PySem.W.Frag} {H : Hp} : ∀ {vs : List V} {st : List StepT}, StepsAt K H vs st → DpAll K H vs (st.map stepD)
  | [], [], _ => .nil
  | [], _ :: _, h => by
    have z := h.1
    simp at z
  | _ :: _, [], h => by
    have z := h.1
    simp at z
  | v :: vs, s :: st, h => by
    obtain ⟨r, h1, h2⟩ := h.2 0 s rfl
    simp at h1
    subst h1
    exact .cons (.tup h2 (dp_wv s.1 s.2)) (dp_steps h.tail)
theorem lay_steps : ∀ st : List StepT, (∀ s ∈ st, WOk s.1) → PyData.canLayAll0 (st.map stepD) = true
  | [], _ => by simp [PyData.canLayAll0]
  | s :: st, h => by
    rw [List.map_cons]
    simp only [stepD, PyData.canLayAll0, PyData.canLay0, lay_wD s.1 s.2 (h s (List.mem_cons_self ..)), Bool.true_and]
    exact lay_steps st fun y hy => h y (List.mem_cons_of_mem _ hy)
theorem deep_steps : ∀ st : List StepT, PyData.depthAll (st.map stepD) ≤ 5
  | [] => by simp [PyData.depthAll]
  | s :: st => by
    have h := deep_wD s.1 s.2
    have h2 := deep_steps st
    rw [List.map_cons]
    simp only [stepD, PyData.depthAll, PyData.depth]
    omega
theorem shaped_steps (st : List StepT) (ok : ∀ s ∈ st, WOk s.1) : SeqAt.shaped (.list (st.map stepD)) = true := by
  have h2 := deep_steps st
  have h3 : PyData.depth (.list (st.map stepD)) ≤ 64 := by
    simp only [PyData.depth]
    omega
  have h1 : PyData.canLay0 (.list (st.map stepD)) = true := by
    simp only [PyData.canLay0]
    exact lay_steps st ok
  show (PyData.canLay0 (.list (st.map stepD)) && decide (PyData.depth (.list (st.map stepD)) ≤ 64)) = true
  rw [h1, decide_eq_true h3]
  rfl
/-- xs != [], xs a list of steps or spots -/
theorem i_neSt {K : PySem.W.Frag} {σ : L2.St} {H : Hp} {Qb : Bool → Hp → Prop} {te : TE} {l : Addr} {us : List V} {st : List StepT} (hte : ∀ Q : VK, Q (.ref l) H → te σ H Q) (h : SqL K H l us) (hs : StepsAt K H us st) (ok : ∀ s ∈ st, WOk s.1) (q : ∀ H', Same H H' → Qb (!decide (st = [])) H') :
    tTest (tOp (rNeD K) te (tLst tNil)) σ H Qb := by
  refine i_test (i_op (hte _ (i_lst (i_nil ⟨by show 0 ≤ sizeLine; decide, fun pe ne => ⟨.list (st.map stepD), .list [], .lst ((same_new ne).seq h) (dp_steps (hs.same (same_new ne))), .lst (SqL.of upd_same) .nil, shaped_steps st ok, shaped_empty, _, rfl, ?_⟩⟩))))
  rw [eqv_emptyL]
  have z := q _ (same_new (o := .lst []) ne)
  cases st with
  | nil => exact z
  | cons x r => exact z
theorem step_wok {vn : List Str} {s : StepT} (hV : NamesOk vn) (h : stepB vn s.2 s.1 = true) : WOk s.1 := fun w hw => strOk_of fun c hc => ((step_words hV h).2.1 w hw).2 c hc |>.1
theorem spot_wok {vn : List Str} {ws : List Str} {many m : Int} (hV : NamesOk vn) (h : spotB vn many (some m) ws = true) : WOk ws := fun w hw => by
  rcases spot_cases h with ⟨rfl, _⟩ | ⟨x, hx, rfl, _⟩
  · rw [List.mem_singleton.mp hw]
    decide +kernel
  · simp only [List.mem_cons, List.not_mem_nil, or_false] at hw
    rcases hw with rfl | rfl
    · decide +kernel
    · exact (hV.2.2.2 _ hx).2.1
theorem spotsB_ok {vn : List Str} {n : Nat} : ∀ s ∈ spotsB n, ∃ m : Int, s.2 = some m ∧ spotB vn (n : Nat) (some m) s.1 = true := fun s hs => by
  obtain ⟨i, hi, rfl⟩ := List.mem_map.mp hs
  have hi2 := List.mem_range.mp hi
  refine ⟨(i : Int), rfl, ?_⟩
  show (decide (("by" : Str) = ("by" : Str)) && (decide ((0 : Int) ≤ (i : Int)) && decide ((i : Int) ≤ ((n : Nat) : Int) - 1))) = true
  rw [decide_eq_true rfl, decide_eq_true (by omega), decide_eq_true (by omega)]
  rfl
theorem spotsI_ok {vn : List Str} {n : Nat} : ∀ s ∈ spotsI vn n, ∃ m : Int, s.2 = some m ∧ spotB vn (n : Nat) (some m) s.1 = true := fun s hs => by
  obtain ⟨i, hi, hs2⟩ := List.mem_flatMap.mp hs
  obtain ⟨x, hx, rfl⟩ := List.mem_map.mp hs2
  have hi2 := List.mem_range.mp hi
  refine ⟨(i : Int) + 1, rfl, ?_⟩
  show (decide (("in" : Str) = ("in" : Str)) && (decide (x ∈ vn) && (decide ((1 : Int) ≤ (i : Int) + 1) && decide ((i : Int) + 1 ≤ ((n : Nat) : Int))))) = true
  rw [decide_eq_true rfl, decide_eq_true hx, decide_eq_true (by omega), decide_eq_true (by omega)]
  rfl
theorem dye_bound {vn : List Str} {st : List StepT} {its : List Int} {ws : List Str} {m : Int} (v6 : vn.length ≤ 6) (hG : Grown vn st) (l14 : st.length ≤ 14) (hl : its.length = st.length) (hR : RowOk vn st its) (h : spotB vn (st.length : Nat) (some m) ws = true) : 0 ≤ dyeS vn st its ws m ∧ dyeS vn st its ws m ≤ 1386 := by
  rcases spot_cases h with ⟨rfl, m0, m1⟩ | ⟨x, hx, rfl, m0, m1⟩
  · obtain ⟨k, rfl⟩ : ∃ k : Nat, m = (k : Int) := ⟨m.toNat, by omega⟩
    have hk : k < st.length := by omega
    have hk2 : k < its.length := by omega
    have hs := List.getElem?_eq_getElem hk
    have hd := List.getElem?_eq_getElem hk2
    have z0 := hR.2 k _ _ hs hd
    have z := And.intro z0.1 z0.2.1
    clear z0
    obtain ⟨w, mm, e, dk⟩ := hG.at hs
    obtain ⟨⟨n, en, n1, n2⟩, _⟩ := step_cases (deed_step dk)
    cases en
    rw [e] at z
    have e2 : dyeS vn st its ["by"] (k : Int) = its[k] := by
      show its.getD (k : Int).toNat 0 = its[k]
      rw [Int.toNat_natCast, List.getD_eq_getElem?_getD, hd]
      rfl
    rw [e2]
    have z2 : 0 ≤ its[k] ∧ its[k] ≤ mm := z
    omega
  · obtain ⟨k, rfl⟩ : ∃ k : Nat, m = (k : Int) := ⟨m.toNat, by omega⟩
    have z := hR.1 k (by omega) (vn.idxOf x)
    have z2 := (hG.take k).le (vn.idxOf x)
    have l2 : (st.take k).length ≤ 14 := by
      rw [List.length_take]
      omega
    show 0 ≤ (levAt vn ((dyedS st its).take k)).getD (vn.idxOf x) 0 ∧ (levAt vn ((dyedS st its).take k)).getD (vn.idxOf x) 0 ≤ 1386
    omega
theorem size_bound {vn : List Str} {st : List StepT} {ws : List Str} {m : Int} (v6 : vn.length ≤ 6) (hG : Grown vn st) (l14 : st.length ≤ 14) (h : spotB vn (st.length : Nat) (some m) ws = true) : 0 ≤ sizeS vn st ws m ∧ sizeS vn st ws m ≤ 1386 := by
  rcases spot_cases h with ⟨rfl, m0, m1⟩ | ⟨x, hx, rfl, m0, m1⟩
  · obtain ⟨k, rfl⟩ : ∃ k : Nat, m = (k : Int) := ⟨m.toNat, by omega⟩
    have hk : k < st.length := by omega
    have hs := List.getElem?_eq_getElem hk
    obtain ⟨w, mm, e, dk⟩ := hG.at hs
    obtain ⟨⟨n, en, n1, n2⟩, _⟩ := step_cases (deed_step dk)
    cases en
    have e2 : sizeS vn st ["by"] (k : Int) = mm := by
      show ((st[(k : Int).toNat]?.getD ([], none)).2).getD 0 = mm
      rw [Int.toNat_natCast, hs]
      show (st[k].2).getD 0 = mm
      rw [e]
      rfl
    rw [e2]
    omega
  · obtain ⟨k, rfl⟩ : ∃ k : Nat, m = (k : Int) := ⟨m.toNat, by omega⟩
    have z := (hG.take k).nn v6 (vn.idxOf x)
    have z2 := (hG.take k).le (vn.idxOf x)
    have l2 : (st.take k).length ≤ 14 := by
      rw [List.length_take]
      omega
    show 0 ≤ (levAt vn (st.take k)).getD (vn.idxOf x) 0 ∧ (levAt vn (st.take k)).getD (vn.idxOf x) 0 ≤ 1386
    omega
def spSampled (K : PySem.W.Frag) : Sp := fun vs H Q _ => ∃ p o t g n pn vn st sa, vs = [.ref p, .ref o, .int t, .int g] ∧ OwnE K (But H p) o pn vn st sa ∧ NamesOk vn ∧ Grown vn st ∧ st.length ≤ 14 ∧ 0 ≤ t ∧ t ≤ 6 ∧ 0 ≤ g ∧ g ≤ 1000 ∧ Pot H p n ∧ n + 120 ≤ 100000 ∧
  ∀ H' po sa', Same (But H p) (But H' p) → Pot H' p (n + 120) → OwnE K (But H' p) po pn vn st sa' → (∀ z ∈ sa', sampB vn (st.length : Nat) z = true) → sa'.Nodup → sa'.length ≤ 6 → Q (.ref po) H'
theorem samp_put {K : PySem.W.Frag} {H : Hp} {p pf pn b c c2 : Addr} {vn : List Str} {us ws2 : List V} {st : List StepT} {sa2 : List SampT} (hO : But H p pf = some (.dK (ownKV pn b c))) (hA : But H p pn = some (.lst (sV vn))) (hB : But H p b = some (.lst us)) (hS : StepsAt K (But H p) us st) (e : But H p c2 = some (.lst ws2)) (hW : SampsAt K (But H p) ws2 sa2) : OwnE K (But (upd H pf (.dK (ownKV pn b c2))) p) pf pn vn st sa2 := by
  have npf := but_ne hO
  have br : Bar pf (But H p) (But (upd H pf (.dK (ownKV pn b c2))) p) := by
    rw [but_upd2 npf]
    exact Bar.put (Same.refl _)
  exact ⟨b, c2, us, ws2, (del_ne npf).trans upd_same, br.lst hO hA, br.lst hO hB, hS.keep (br.keep hO), br.lst hO e, hW.keep (br.keep hO)⟩
theorem StepsAt.mem {K : PySem.W.Frag} {H : Hp} {xs : List V} {L : List StepT} {v : V} (h : StepsAt K H xs L) (hv : v ∈ xs) : ∃ s r, s ∈ L ∧ v = .ref r ∧ SqT K H r (wv s.1 s.2) := by
  obtain ⟨i, hi, e⟩ := List.getElem_of_mem hv
  have hl : i < L.length := by
    rw [← h.1]
    exact hi
  have hs := List.getElem?_eq_getElem hl
  obtain ⟨r, h1, h2⟩ := h.2 i _ hs
  rw [List.getElem?_eq_getElem hi, e] at h1
  exact ⟨_, r, List.getElem_mem hl, Option.some.inj h1, h2⟩
theorem three_ok : ∀ k ∈ (["is", "least", "most"] : List Str), PyData.strOk k = true := by decide +kernel
theorem off_tup {K : PySem.W.Frag} {H : Hp} {p r : Addr} {n : Int} {xs : List V} (hP : Pot H p n) (h : SqT K H r xs) : SqT K (But H p) r xs := by
  rcases h with (h | ⟨o, h⟩) | h
  · exact .inl (.inl ((del_ne (fun y => by
      obtain ⟨a1, a2, a3, a4, _⟩ := hP
      rw [y, a4] at h
      cases h)).trans h))
  · exact .inl (.inr ⟨o, (del_ne (fun y => by
      obtain ⟨a1, a2, a3, a4, _⟩ := hP
      rw [y, a4] at h
      cases h)).trans h⟩)
  · exact .inr h
end Er
set_option Elab.async false
set_option linter.all false
set_option maxRecDepth 100000
set_option maxHeartbeats 4000000
/-! A yard of any value: texts and others. -/
namespace Er
open PySem PySem.Spec PyProof.Rows L2 LamX
theorem ext_sqT {K : PySem.W.Frag} {H H' : Hp} {a : Addr} {xs : List V} (e : ExtN H H') (h : SqT K H a xs) : SqT K H' a xs := by
  rcases h with (h | ⟨o, h⟩) | h
  · exact .inl (.inl (e _ _ h fun ps z => nomatch z))
  · exact .inl (.inr ⟨o, e _ _ h fun ps z => nomatch z⟩)
  · exact .inr h
mutual
theorem Sh.ext {K : PySem.W.Frag} {H H' : Hp} (e : ExtN H H') : ∀ {v : V} {d : PyData}, Sh K H v d → Sh K H' v d
  | _, _, .non => .non
  | _, _, .bl b => .bl b
  | _, _, .int i => .int i
  | _, _, .str x => .str x
  | _, _, .lst hs ha => .lst (ext_sqL e hs) (ShAll.ext e ha)
  | _, _, .tup hs ha => .tup (ext_sqT e hs) (ShAll.ext e ha)
  | _, _, .dic hs hk ha => .dic (e _ _ hs fun ps z => nomatch z) hk (ShAll.ext e ha)
theorem ShAll.ext {K : PySem.W.Frag} {H H' : Hp} (e : ExtN H H') : ∀ {vs : List V} {ds : List PyData}, ShAll K H vs ds → ShAll K H' vs ds
  | _, _, .nil => .nil
  | _, _, .cons h t => .cons (Sh.ext e h) (ShAll.ext e t)
end
theorem isK_noStr {d : PyData} (h : ∀ x, d ≠ .str x) : kitB (kindOf d) "str" = some false := by
  cases d with
  | none => exact isK_str .none
  | bool b => exact isK_str (.bool b)
  | int i => exact isK_str (.int i)
  | str x => exact absurd rfl (h x)
  | list l => exact isK_str (.list l)
  | tuple l => exact isK_str (.tuple l)
  | dict l => exact isK_str (.dict l)
def spReadN (K : PySem.W.Frag) : Sp := fun vs H Q E => ∃ v d, vs = [v] ∧ Sh K H v d ∧ (∀ x, d ≠ .str x) ∧ BadA K H E 0
def spYardN (K : PySem.W.Frag) : Sp := fun vs H Q E => ∃ y dx v d, vs = [.ref y, v] ∧ H y = some (.ins (He.ga K "Yard") dx []) ∧ Sh K H v d ∧ (∀ x, d ≠ .str x) ∧ BadA K H E 0
def spYardA (K : PySem.W.Frag) : Sp := fun vs H Q E => spYardI K vs H Q E ∨ spYardN K vs H Q E
theorem spYardA_mono {K : PySem.W.Frag} {vs : List V} {H : Hp} {Q Q' : VK} {E : XK} (f : ∀ v H3, Q v H3 → Q' v H3) (h : spYardA K vs H Q E) : spYardA K vs H Q' E := h.elim (fun z => .inl (spYardI_mono f z)) .inr
theorem fn_or {P : Program} {w : World} {K : PySem.W.Frag} {mg : Str → Option Value} {base : Heap} {CX : CXT} {k : Nat} {f : Addr} {fd : FuncData} {ps : List Str} {s1 s2 : Sp} (a : FnOk P w K mg base CX k f fd ps s1) (b : FnOk P w K mg base CX k f fd ps s2) : FnOk P w K mg base CX k f fd ps fun vs H Q E => s1 vs H Q E ∨ s2 vs H Q E :=
  ⟨fun vs H Q E h => h.elim (a.len vs H Q E) (b.len vs H Q E), fun A outer s H args us vs Q E h1 h2 h3 h4 h => h.elim (a.run A outer s H args us vs Q E h1 h2 h3 h4) (b.run A outer s H args us vs Q E h1 h2 h3 h4)⟩
def spJudged (K : PySem.W.Frag) (P : Addr) (q : Str) : Sp := fun vs H Q _ => ∃ v d, vs = [v] ∧ Sh K H v d ∧ (∀ x, d = .str x → ∃ k ns L, TextW x k ns L) ∧ Tabs [(P, q)] H ∧ ∀ H', ExtN H H' → Tabs [(P, q)] H' → Q (.bl true) H'
theorem wrong_small {vn : List Str} : ∀ {L : List LW} {n : Nat} {st : List StepT} {sa : List SampT} {m : Int}, wrongL vn n L st sa = some m → 0 ≤ m ∧ m ≤ n + L.length
  | [], _, _, _, _, h => by cases h
  | l :: ls, n, st, sa, m, h => by
    unfold wrongL at h
    split at h
    · have z := wrong_small h
      rw [List.length_cons]
      omega
    · split at h
      · have z := wrong_small h
        rw [List.length_cons]
        omega
      · cases h
        rw [List.length_cons]
        omega
theorem verdict_small {k : Str} {ns : List Str} {L : List LW} {n : Int} (h : verdict k ns L = some n) (hl : L.length ≤ 1000) : n.natAbs.log2 < 1920 := by
  have b : 0 ≤ n ∧ n ≤ 1002 := by
    rw [verdict_eq] at h
    split at h
    · cases h
      omega
    · have z := wrong_small h
      omega
  have c : n.natAbs < 2 ^ 11 := by
    show n.natAbs < 2048
    omega
  by_cases e : n.natAbs = 0
  · rw [e]
    decide
  · exact Nat.lt_trans ((Nat.log2_lt e).mpr c) (by decide)
end Er
set_option Elab.async false
set_option linter.all false
set_option maxRecDepth 100000
set_option maxHeartbeats 4000000
/-! The text of a drawn yard is read back. -/
namespace Er
open PySem PySem.Spec PyProof.Rows L2 TL
theorem dig_nat : ∀ d : Nat, d < 10 → (d.digitChar).toNat = 48 + d := by decide
theorem digVal : ∀ m : Nat, NumText.digitsVal ((Nat.toDigits 10 m).map Char.toNat) = m := by
  intro m
  induction m using Nat.strongRecOn with
  | ind m ih =>
    by_cases h : m < 10
    · rw [Nat.toDigits_of_lt_base h, List.map_cons, List.map_nil, dig_nat m h]
      show (0 * 10 + (48 + m - 48)) = m
      omega
    · rw [Nat.toDigits_of_base_le (by decide) (by omega), List.map_append, List.map_cons, List.map_nil, NumText.digitsVal_snoc, ih (m / 10) (by omega), dig_nat (m % 10) (by omega)]
      omega
theorem num_all (m : Nat) : NumText.AllDigits ((Nat.toDigits 10 m).map Char.toNat) := fun c hc => by
  obtain ⟨d, hd, rfl⟩ := List.mem_map.mp hc
  have z := Nat.isDigit_of_mem_toDigits (by decide) (by decide) hd
  unfold Char.isDigit at z
  simp only [Bool.and_eq_true, decide_eq_true_eq] at z
  exact ⟨UInt32.le_iff_toNat_le.mp z.1, UInt32.le_iff_toNat_le.mp z.2⟩
theorem int_num {n : Int} (h0 : 0 ≤ n) (h1 : n ≤ 9999) : intOfS (numS n) = some n := by
  obtain ⟨k1, k2, _⟩ := num_ok h0 h1
  obtain ⟨m, rfl⟩ : ∃ m : Nat, n = (m : Int) := ⟨n.toNat, by omega⟩
  have e : (numS (m : Int)).cps.toList = (Nat.toDigits 10 m).map Char.toNat := tl_num m
  have ne : (numS (m : Int)).cps.toList ≠ [] := fun z => by
    rw [e] at z
    have y := @Nat.length_toDigits_pos 10 m
    rw [List.map_eq_nil_iff.mp z] at y
    exact absurd y (by decide)
  have all := num_all m
  rw [← e] at all
  have hneg : ¬ negB (numS (m : Int)) = true := fun z => by
    obtain ⟨cs, hc⟩ := negB_iff.mp z
    have y := k2 45 (by rw [show tl (numS (m : Int)) = _ from hc]; exact List.mem_cons_self ..)
    omega
  have ed : digsOf (numS (m : Int)) = numS (m : Int) := if_neg hneg
  have hd : digsOk (numS (m : Int)) = true := by
    unfold digsOk
    rw [ed]
    have z : ¬ (numS (m : Int)) = ("" : Str) := fun y => ne (by rw [y]; decide +kernel)
    rw [decide_eq_false z, Bool.not_false, Bool.true_and, List.all_eq_true]
    intro c hc
    exact digB_iff.mpr (k2 c hc)
  have hi : intText? (numS (m : Int)) = some (m : Int) := by
    rw [intText_digits all ne (by omega), e, digVal]
  unfold intOfS
  rw [if_pos hd, hi]
  exact if_pos rfl
theorem word_num {n : Int} (h0 : 0 ≤ n) (h1 : n ≤ 9999) : WordP (numS n) := by
  obtain ⟨k1, k2, _⟩ := num_ok h0 h1
  exact ⟨by omega, fun h => by have := k2 32 h; omega, fun h => by have := k2 10 h; omega, strOk_of fun c hc => by have := k2 c hc; omega⟩
theorem word_name {vn : List Str} (hV : NamesOk vn) {x : Str} (h : x ∈ vn) : WordP x := by
  obtain ⟨_, h2, h3, h4⟩ := hV.2.2.2 x h
  exact ⟨by omega, fun z => (h4 32 z).2.2 rfl, fun z => (h4 10 z).2.1 rfl, h2⟩
theorem word_of {x : Str} (h : wordB x = true) : WordP x := wordB_ok h
theorem step_wordP {vn ws : List Str} {o : Option Int} (hV : NamesOk vn) (h : stepB vn o ws = true) : ∀ w ∈ ws, WordP w := by
  obtain ⟨_, hc⟩ := step_cases h
  have k1 : WordP "fill" := word_of (by decide +kernel)
  have k2 : WordP "dye" := word_of (by decide +kernel)
  have k3 : WordP "draw" := word_of (by decide +kernel)
  have k4 : WordP "pour" := word_of (by decide +kernel)
  rcases hc with ⟨a, ha, rfl | rfl | rfl⟩ | ⟨a, b, ha, hb, _, rfl⟩
  · intro w hw
    simp only [List.mem_cons, List.not_mem_nil, or_false] at hw
    rcases hw with rfl | rfl
    · exact k1
    · exact word_name hV ha
  · intro w hw
    simp only [List.mem_cons, List.not_mem_nil, or_false] at hw
    rcases hw with rfl | rfl
    · exact k2
    · exact word_name hV ha
  · intro w hw
    simp only [List.mem_cons, List.not_mem_nil, or_false] at hw
    rcases hw with rfl | rfl
    · exact k3
    · exact word_name hV ha
  · intro w hw
    simp only [List.mem_cons, List.not_mem_nil, or_false] at hw
    rcases hw with rfl | rfl | rfl
    · exact k4
    · exact word_name hV ha
    · exact word_name hV hb
/-- the words of a step's row, of a sample's -/
def stepWs (s : StepT) : List Str := s.1 ++ [numS (s.2.getD 0)]
def sampWs : SampT → List Str
  | some (k, o1, ws, o2) => k :: numS (o1.getD 0) :: (ws ++ [numS (o2.getD 0)])
  | none => []
theorem join_cons (a b : Str) (r : List Str) : Txt.join " " (a :: b :: r) = a ++ " " ++ Txt.join " " (b :: r) := by
  rw [← mk_tl (Txt.join " " (a :: b :: r)), ← mk_tl (a ++ " " ++ Txt.join " " (b :: r))]
  congr 1
  rw [tl_append, tl_append, join_eq, join_eq, tl_join, tl_join]
  show tl a ++ (tl " " ++ joinL (tl " ") (List.map tl (b :: r))) = _
  rw [List.append_assoc]
theorem str_assoc (a b c : Str) : a ++ b ++ c = a ++ (b ++ c) := by
  rw [← mk_tl (a ++ b ++ c), ← mk_tl (a ++ (b ++ c))]
  congr 1
  simp only [tl_append, List.append_assoc]
theorem sampRow_eq {k : Str} {n m : Int} {ws : List Str} : sampRow (some (k, some n, ws, some m)) = Txt.join " " (sampWs (some (k, some n, ws, some m))) := by
  show k ++ " " ++ numS n ++ " " ++ Txt.join " " (ws ++ [numS m]) = Txt.join " " (k :: numS n :: (ws ++ [numS m]))
  obtain ⟨x, r, e⟩ : ∃ x r, ws ++ [numS m] = x :: r := List.exists_cons_of_ne_nil (by simp)
  rw [e, join_cons, join_cons]
  simp only [str_assoc]
def lwS (s : StepT) : LW := (s.1, numS (s.2.getD 0))
def lwZ : SampT → LW
  | some (k, o1, ws, o2) => (k :: numS (o1.getD 0) :: ws, numS (o2.getD 0))
  | none => ([], "")
theorem lw_snoc (ws : List Str) (x : Str) : lwOf (ws ++ [x]) = (ws, x) := by
  unfold lwOf
  rw [List.dropLast_concat, List.getLastD_eq_getLast?, List.getLast?_concat]
  rfl
/-- step by step -/
theorem lines_steps {vn : List Str} (hV : NamesOk vn) {st : List StepT} (hG : Grown vn st) : ∀ (n : Nat) (R : List LW), linesR vn n (st.map lwS ++ R) ([], [], levsOf vn []) = linesR vn (n + st.length) R (st, [], levsOf vn st) := by
  induction hG with
  | nil => intro n R; rfl
  | @snoc st ws m g d ih =>
    intro n R
    have v6 := hV.2.2.1
    obtain ⟨⟨m', e, m1, m2⟩, _⟩ := step_cases (deed_step d)
    cases e
    rw [List.map_append, List.append_assoc, ih]
    show linesR vn (n + st.length) (lwS (ws, some m) :: R) (st, [], levsOf vn st) = _
    have hi : intOfS (numS m) = some m := int_num (by omega) (by omega)
    rw [linesR_cons, line_eq hV.2.1 (g.minv v6)]
    show (match (if deedOk vn st [] ws (intOfS (numS m)) = true then some (st ++ [(ws, intOfS (numS m))], [], levsOf vn (st ++ [(ws, intOfS (numS m))])) else _) with
      | none => Sum.inl (n + st.length)
      | some z2 => linesR vn (n + st.length + 1) R z2) = _
    rw [hi, if_pos d, List.length_append]
    rfl
theorem lines_samps {vn : List Str} (hV : NamesOk vn) {st : List StepT} (hG : Grown vn st) (l14 : st.length ≤ 14) : ∀ (sa sa0 : List SampT) (n : Nat), (∀ z ∈ sa0 ++ sa, sampB vn (st.length : Nat) z = true) → (sa0 ++ sa).Nodup → (sa0 ++ sa).length ≤ 6 → MInv vn st sa0 → linesR vn n (sa.map lwZ) (st, sa0, levsOf vn st) = .inr (st, sa0 ++ sa, levsOf vn st)
  | [], sa0, n, _, _, _, _ => by
    rw [List.append_nil]
    rfl
  | z :: sa, sa0, n, ok, nd, l6, mi => by
    have hz := ok z (List.mem_append_right _ (List.mem_cons_self ..))
    obtain ⟨k, a, ws, m, rfl, hk, n0, n1, lw, hw, m0, m1⟩ := samp_words hV l14 hz
    have e : sampOf (k :: numS a :: ws) (numS m) = some (k, some a, ws, some m) := by
      show some (k, intOfS (numS a), ws, intOfS (numS m)) = _
      rw [int_num n0 n1, int_num m0 (by omega)]
    have nm : (some (k, some a, ws, some m) : SampT) ∉ sa0 := fun y => (List.nodup_append.mp nd).2.2 _ y _ (List.mem_cons_self ..) rfl
    have cl : claimOk vn st sa0 (some (k, some a, ws, some m)) = true := by
      unfold claimOk
      have l5 : sa0.length ≠ 6 := by
        rw [List.length_append, List.length_cons] at l6
        omega
      rw [hz, decide_eq_true l5, decide_eq_true nm]
      rfl
    have dk : ¬ deedOk vn st sa0 (k :: numS a :: ws) (intOfS (numS m)) = true := fun y => by
      have z2 := not_both y
      rw [e, cl] at z2
      cases z2
    rw [List.map_cons, linesR_cons, line_eq hV.2.1 mi]
    show (match (if deedOk vn st sa0 (k :: numS a :: ws) (intOfS (numS m)) = true then _ else if claimOk vn st sa0 (sampOf (k :: numS a :: ws) (numS m)) = true then some (st, sa0 ++ [sampOf (k :: numS a :: ws) (numS m)], levsOf vn st) else none) with
      | none => Sum.inl n
      | some z2 => linesR vn (n + 1) (sa.map lwZ) z2) = _
    rw [if_neg dk, e, if_pos cl]
    have ih := lines_samps hV hG l14 sa (sa0 ++ [some (k, some a, ws, some m)]) (n + 1) (by rw [List.append_assoc]; exact ok) (by rw [List.append_assoc]; exact nd) (by rw [List.append_assoc]; exact l6) (minv_samp mi cl)
    rw [List.append_assoc] at ih
    exact ih
theorem read_back {vn : List Str} {st : List StepT} {sa : List SampT} (hV : NamesOk vn) (hG : Grown vn st) (l14 : st.length ≤ 14) (ok : ∀ z ∈ sa, sampB vn (st.length : Nat) z = true) (nd : sa.Nodup) (l6 : sa.length ≤ 6) :
    ∃ L, TextW (Txt.join "\n" (yRows vn st sa)) "vessels" vn L ∧ vessL "vessels" vn = some vn ∧ readA vn L = .inr (st, sa, levsOf vn st) := by
  have v6 := hV.2.2.1
  have hst := (hG.minv v6).1
  have rowS : ∀ s ∈ st, RowP (stepWs s) := fun s hs => by
    obtain ⟨h1, h2, m, e, m1, m2⟩ := step_words hV (hst s hs)
    refine ⟨by unfold stepWs; simp, by unfold stepWs; rw [List.length_append, List.length_singleton]; omega, fun w hw => ?_⟩
    unfold stepWs at hw
    rw [e] at hw
    rcases List.mem_append.mp hw with hw | hw
    · exact step_wordP hV (hst s hs) w hw
    · rw [List.mem_singleton.mp hw]
      exact word_num (by show 0 ≤ m; omega) (by show m ≤ 9999; omega)
  have wk : ∀ k ∈ (["is", "least", "most"] : List Str), wordB k = true := by decide +kernel
  have rowZ : ∀ z ∈ sa, RowP (sampWs z) ∧ sampRow z = Txt.join " " (sampWs z) ∧ lwOf (sampWs z) = lwZ z := fun z hz => by
    have hb := ok z hz
    obtain ⟨k, a, ws, m, rfl, hk, n0, n1, lw, hw, m0, m1⟩ := samp_words hV l14 hb
    have h2 : (decide (k ∈ (["is", "least", "most"] : List Str)) && (inO (some a) 0 9999 && spotB vn (st.length : Nat) (some m) ws)) = true := hb
    simp only [Bool.and_eq_true, decide_eq_true_eq] at h2
    refine ⟨⟨(fun e => nomatch e), by show (ws ++ [numS m]).length + 1 + 1 ≤ 8; rw [List.length_append, List.length_singleton]; omega, fun w hw2 => ?_⟩, sampRow_eq, ?_⟩
    · rcases List.mem_cons.mp hw2 with rfl | hw2
      · exact word_of (wk _ h2.1)
      · rcases List.mem_cons.mp hw2 with rfl | hw2
        · exact word_num n0 n1
        · rcases List.mem_append.mp hw2 with hw2 | hw2
          · rcases spot_cases h2.2.2 with ⟨rfl, _⟩ | ⟨x, hx, rfl, _⟩
            · rw [List.mem_singleton.mp hw2]
              exact word_of (by decide +kernel)
            · simp only [List.mem_cons, List.not_mem_nil, or_false] at hw2
              rcases hw2 with rfl | rfl
              · exact word_of (by decide +kernel)
              · exact word_name hV hx
          · rw [List.mem_singleton.mp hw2]
            exact word_num m0 (by show m ≤ 9999; omega)
    · show lwOf (k :: numS a :: (ws ++ [numS m])) = (k :: numS a :: ws, numS m)
      have z := lw_snoc (k :: numS a :: ws) (numS m)
      exact z
  have row0 : RowP ("vessels" :: vn) := by
    refine ⟨(fun e => nomatch e), by rw [List.length_cons]; omega, fun w hw => ?_⟩
    rcases List.mem_cons.mp hw with rfl | hw
    · exact word_of (by decide +kernel)
    · exact word_name hV hw
  have all : ∀ ws ∈ st.map stepWs ++ sa.map sampWs, RowP ws := fun ws hw => by
    rcases List.mem_append.mp hw with hw | hw
    · obtain ⟨s, hs, rfl⟩ := List.mem_map.mp hw
      exact rowS s hs
    · obtain ⟨z, hz, rfl⟩ := List.mem_map.mp hw
      exact (rowZ z hz).1
  have t := text_of row0 all (by rw [List.length_append, List.length_map, List.length_map]; omega)
  have eR : ((("vessels" : Str) :: vn) :: (st.map stepWs ++ sa.map sampWs)).map (Txt.join " ") = yRows vn st sa := by
    unfold yRows
    rw [List.map_cons, List.map_append, List.map_map, List.map_map]
    congr 2
    exact List.map_congr_left fun z hz => (rowZ z hz).2.1.symm
  have eL : (st.map stepWs ++ sa.map sampWs).map lwOf = st.map lwS ++ sa.map lwZ := by
    rw [List.map_append, List.map_map, List.map_map]
    congr 1
    · exact List.map_congr_left fun s _ => lw_snoc s.1 _
    · exact List.map_congr_left fun z hz => (rowZ z hz).2.2
  simp only at t
  rw [eR, eL] at t
  have names : vn.all isNameS = true := List.all_eq_true.mpr fun x hx => (hV.2.2.2 x hx).1
  refine ⟨_, t.2.2, if_pos ⟨rfl, List.length_pos_iff.mpr hV.2.1, v6, names, hV.1⟩, ?_⟩
  unfold readA
  rw [show ([List.replicate vn.length 0] : List (List Int)) = levsOf vn [] from rfl, lines_steps hV hG]
  exact lines_samps hV hG l14 sa [] _ (by rw [List.nil_append]; exact ok) (by rw [List.nil_append]; exact nd) (by rw [List.nil_append]; exact l6) (hG.minv v6)
end Er
set_option Elab.async false
set_option linter.all false
set_option maxRecDepth 100000
set_option maxHeartbeats 4000000
/-! Rows of text made of a step, a sample, a row of names; a Yard made of them. -/
namespace Er
open PySem PySem.Spec PyProof.Rows L2 TL
def rStrA : List V → Hp → VK → Prop := fun xs H Q => (∃ a, xs = [.str a] ∧ Q (.str a) H) ∨ ∃ i : Int, xs = [.int i] ∧ i.natAbs.log2 < 1920 ∧ Q (.str (Str.ofString (toString i))) H
theorem call_strA {X : Cx} : CallR X (.type "str") rStrA := by
  intro pins s σ H xs us Q I r h
  rcases h with h | h
  · exact SkE.call_str_str pins s σ H xs us Q I r h
  · exact call_str_int pins s σ H xs us Q I r h
theorem parts_at {ws : List Str} {n : Int} {i : Nat} {v x : V} (hv : ((ws ++ [numS n]).map V.str)[i]? = some v) (hx : (wv ws (some n))[i]? = some x) : (∃ w, x = .str w ∧ v = .str w) ∨ (x = .int n ∧ v = .str (numS n)) := by
  unfold wv sV at hx
  rw [List.map_append] at hv
  by_cases h : i < (ws.map V.str).length
  · rw [List.getElem?_append_left h] at hv hx
    rw [hv] at hx
    rw [List.getElem?_map] at hv
    obtain ⟨w, _, rfl⟩ := Option.map_eq_some_iff.mp hv
    exact .inl ⟨w, (Option.some.inj hx).symm, rfl⟩
  · rw [List.getElem?_append_right (by omega)] at hv hx
    cases e : i - (ws.map V.str).length with
    | zero =>
      rw [e] at hv hx
      exact .inr ⟨(Option.some.inj hx).symm, (Option.some.inj hv).symm⟩
    | succ m =>
      rw [e] at hx
      cases hx
theorem parts_sum {ws : List Str} {n : Int} (h1 : ws.length ≤ 10) (h2 : ∀ w ∈ ws, w.length ≤ 100) (n0 : 0 ≤ n) (n1 : n ≤ 9999) : (List.map (fun w : Str => w.length) (ws ++ [numS n])).sum + (ws ++ [numS n]).length * (" " : Str).length ≤ 1200 := by
  obtain ⟨k1, k2, k3⟩ := num_ok n0 n1
  have z := sum_le (fun w : Str => w.length) 100 (ws ++ [numS n]) (fun w hw => by
    rcases List.mem_append.mp hw with hw | hw
    · exact h2 w hw
    · rw [List.mem_singleton.mp hw]
      omega)
  have z2 : (ws ++ [numS n]).length ≤ 11 := by
    rw [List.length_append, List.length_singleton]
    omega
  rw [show (" " : Str).length = 1 by decide +kernel]
  omega
theorem join_two (a b : Str) (r : List Str) (h : r ≠ []) : Txt.join " " (a :: b :: r) = a ++ " " ++ b ++ " " ++ Txt.join " " r := by
  cases r with
  | nil => exact absurd rfl h
  | cons c r =>
    rw [join_cons, join_cons]
    refine TL.ext_tl ?_
    simp only [tl_append, List.append_assoc]
def spLineS (K : PySem.W.Frag) : Sp := fun vs H Q _ => ∃ p ws n, vs = [.ref p] ∧ SqT K H p (wv ws (some n)) ∧ ws.length ≤ 10 ∧ (∀ w ∈ ws, w.length ≤ 100) ∧ 0 ≤ n ∧ n ≤ 9999 ∧ ∀ H', Same H H' → Q (.str (stepRow ws n)) H'
def spLineZ (K : PySem.W.Frag) : Sp := fun vs H Q _ => ∃ v k n ws m, vs = [v] ∧ SampV K H v (some (k, some n, ws, some m)) ∧ k.length ≤ 100 ∧ 0 ≤ n ∧ n ≤ 9999 ∧ ws.length ≤ 8 ∧ (∀ w ∈ ws, w.length ≤ 100) ∧ 0 ≤ m ∧ m ≤ 9999 ∧ ∀ H', Same H H' → Q (.str (sampRow (some (k, some n, ws, some m)))) H'
def spLineV (K : PySem.W.Frag) : Sp := fun vs H Q _ => ∃ p vn, vs = [.ref p] ∧ SqT K H p (sV vn) ∧ NamesOk vn ∧ ∀ H', Same H H' → Q (.str (Txt.join " " ("vessels" :: vn))) H'
theorem pass_no {P : Program} {w : World} {X : Cx} : Passes (L2.CX P w) X E0 := fun _ _ _ _ _ _ _ c => by
  obtain ⟨_, _, _, _, _, _, _, _, _, _, _, _, hE⟩ := c
  exact hE.elim
/-- a drawn yard, fit to be read -/
def Drawn (vn : List Str) (st : List StepT) (sa : List SampT) : Prop := NamesOk vn ∧ Grown vn st ∧ st.length ≤ 14 ∧ SampsOk vn st sa ∧ sa.Nodup ∧ sa.length ≤ 6
theorem mk_yard {K : PySem.W.Frag} {H : Hp} {vn : List Str} {st : List StepT} {sa : List SampT} {Q : VK} (hd : Drawn vn st sa) (q : ∀ y H', Same H H' → YardG K H' y vn st sa → Q (.ref y) H') :
    ∀ y dx, H y = none → H dx = none → dx ≠ y → spYardI K [.ref y, .str (Txt.join "\n" (yRows vn st sa))] (upd (upd H dx (.own y)) y (.ins (He.ga K "Yard") dx [])) (fun v H2 => v = .non ∧ Q (.ref y) H2) E0 := by
  obtain ⟨hV, hG, l14, ok, nd, l6⟩ := hd
  obtain ⟨L, hL, hv, hr⟩ := read_back hV hG l14 ok nd l6
  intro y dx ny ndx ne
  refine ⟨y, dx, _, _, vn, L, rfl, upd_same, hL, ?_⟩
  unfold AnsR
  rw [hv]
  show (match readA vn L with
    | .inl n => BadA K _ E0 n
    | .inr z => _)
  rw [hr]
  refine fun H' sx hY => ⟨rfl, q y H' (fun b o e => ?_) ⟨_, hY⟩⟩
  have h1 : b ≠ y := fun z => by
    rw [z, ny] at e
    cases e
  have h2 : b ≠ dx := fun z => by
    rw [z, ndx] at e
    cases e
  exact sx b o h1 ((upd_ne h1).trans ((upd_ne h2).trans e))
def spYardOf (K : PySem.W.Frag) : Sp := fun vs H Q _ => ∃ a b c us zs vn st sa, vs = [.ref a, .ref b, .ref c] ∧ SqT K H a (sV vn) ∧ SqT K H b us ∧ StepsAt K H us st ∧ SqT K H c zs ∧ SampsAt K H zs sa ∧ Drawn vn st sa ∧ ∀ y H', Same H H' → YardG K H' y vn st sa → Q (.ref y) H'
def spBare (K : PySem.W.Frag) : Sp := fun vs H Q _ => ∃ y vn st sa, vs = [.ref y] ∧ YardG K H y vn st sa ∧ NamesOk vn ∧ Grown vn st ∧ ∀ y2 H', Same H H' → YardG K H' y2 vn st [] → Q (.ref y2) H'
end Er
set_option Elab.async false
set_option linter.all false
set_option maxRecDepth 100000
set_option maxHeartbeats 4000000
namespace K10
open PySem PySem.Spec PyProof.Rows L2 Er
section
variable {P : Program} {w : World} {K : PySem.W.Frag} {mg : Str → Option Value} {base : Heap} {f : Addr} {fd : FuncData}
theorem sc_step_line : FnScope ["step", "part"] ["step"] (defScope s_step_line) := ⟨rfl, rfl, rfl, by decide +kernel, rfl, by decide +kernel, by decide +kernel⟩
theorem ok_step_line (T : Tx K mg) (F : FunD K "step_line" "step_line" (defArgs s_step_line) (defBody s_step_line) (defScope s_step_line) [] [] f fd)  : FnOk P w K mg base CX0 1 f fd ["step"] (spLineS K) := by
  refine F.ok sc_step_line (fun vs H Q E h => ?_) (fun cdv A outer s H vs Q E hr h => ?_)
  · obtain ⟨p, ws, n, rfl, hp, h1, h2, n0, n1, q⟩ := h
    rfl
  · obtain ⟨p, ws, n, rfl, hp, h1, h2, n0, n1, q⟩ := h
    refine ⟨_, PSs.nox (pss_one (ps_ret (pe_join pe_str (pe_lc (own := [("part", 1)]) (g := gName 1) (tt := tYes) rfl sc_step_line.nd (pi_tup (pv 0)) (blkOk_by (N := ["step", "part"]) (sc := defScope s_step_line) (by decide +kernel)) (fun _ _ _ _ _ => pg_name (i := 1) sc_step_line.nd rfl (Or.inl rfl)) (fun _ _ _ _ _ => pts_nil) (fun _ _ _ _ _ => (pe_callTy call_strA (by rfl) (T.fr "str" (mem_at 15 rfl)) (by decide +kernel) (pa_cons (pv 1) pa_nil))))))), ?_⟩
    obtain ⟨k1, k2, k3⟩ := num_ok n0 n1
    refine i_ret ⟨⟨_, rfl⟩, i_lc ⟨_, rfl, p, rfl, ⟨_, hp⟩, fun Dl nD => lr_map walk_tup ((ws ++ [numS n]).map V.str) (by rw [List.length_map, List.length_append, wv_len]; rfl) (by rw [wv_len]; omega) nD (fun _ s => sameT s hp) (fun i x H2 H3 v hv s3 hy Q' kq => ?_) (fun _ _ _ => gName_mono) (fun H2 e6 s3 => ?_)⟩⟩
    · obtain ⟨rfl, hy⟩ := hy
      rcases parts_at hv hy with ⟨w, rfl, rfl⟩ | ⟨rfl, rfl⟩
      · exact ⟨rfl, i_cb (i_cons (i_var rfl (i_nil (.inl ⟨w, rfl, kq _ (Same.refl _)⟩))))⟩
      · exact ⟨rfl, i_cb (i_cons (i_var rfl (i_nil (.inr ⟨_, rfl, k3, kq _ (Same.refl _)⟩))))⟩
    · refine ⟨(" " : Str), Dl, ws ++ [numS n], rfl, rfl, .inl (SqL.of e6), ?_, q _ s3⟩
      exact Nat.le_trans (parts_sum h1 h2 n0 n1) (by decide)
theorem sc_sample_line : FnScope ["sample", "word", "number", "spot", "part"] ["sample"] (defScope s_sample_line) := ⟨rfl, rfl, rfl, by decide +kernel, rfl, by decide +kernel, by decide +kernel⟩
theorem ok_sample_line (T : Tx K mg) (F : FunD K "sample_line" "sample_line" (defArgs s_sample_line) (defBody s_sample_line) (defScope s_sample_line) [] [] f fd)  : FnOk P w K mg base CX0 1 f fd ["sample"] (spLineZ K) := by
  refine F.ok sc_sample_line (fun vs H Q E h => ?_) (fun cdv A outer s H vs Q E hr h => ?_)
  · obtain ⟨v, k, n, ws, m, rfl, hz, lk, n0, n1, h1, h2, m0, m1, q⟩ := h
    rfl
  · obtain ⟨v, k, n, ws, m, rfl, hz, lk, n0, n1, h1, h2, m0, m1, q⟩ := h
    refine ⟨_, PSs.nox (pss_cons (ps_asg (pv 0) (pg_tup rfl (pgs_cons (pg_name (i := 1) sc_sample_line.nd rfl (Or.inl rfl)) (pgs_cons (pg_name (i := 2) sc_sample_line.nd rfl (Or.inl rfl)) (pgs_cons (pg_name (i := 3) sc_sample_line.nd rfl (Or.inl rfl)) pgs_nil)))))
      (pss_one (ps_ret (pe_join pe_str (pe_op op_cat (pe_lst (pa_cons (pv 1) (pa_cons (pe_callTy call_str_int (by rfl) (T.fr "str" (mem_at 15 rfl)) (by decide +kernel) (pa_cons (pv 2) pa_nil)) pa_nil))) (pe_lc (own := [("part", 4)]) (g := gName 4) (tt := tYes) rfl sc_sample_line.nd (pi_tup (pv 3)) (blkOk_by (N := ["sample", "word", "number", "spot", "part"]) (sc := defScope s_sample_line) (by decide +kernel)) (fun _ _ _ _ _ => pg_name (i := 4) sc_sample_line.nd rfl (Or.inl rfl)) (fun _ _ _ _ _ => pts_nil) (fun _ _ _ _ _ => (pe_callTy call_strA (by rfl) (T.fr "str" (mem_at 15 rfl)) (by decide +kernel) (pa_cons (pv 4) pa_nil))))))))), ?_⟩
    obtain ⟨k1, k2, k3⟩ := num_ok m0 m1
    obtain ⟨d1, d2, d3⟩ := num_ok n0 n1
    obtain ⟨a3, b3, rfl, h3, hP⟩ := hz
    refine i_asgs (i_var rfl ⟨a3, _, rfl, h3, rfl, ?_⟩)
    refine ⟨_, _, rfl, _, _, rfl, ?_⟩
    refine ⟨_, _, rfl, rfl, ?_⟩
    refine i_ret ⟨⟨_, rfl⟩, i_op (i_lst (i_cons (i_var rfl (i_cons (i_cb (i_cons (i_var rfl (i_nil ⟨n, rfl, d3, i_nil ⟨by show 2 ≤ sizeLine; decide, fun p1 np1 => ?_⟩⟩))))))))⟩
    have s1 := same_new (o := .lst [.str k, .str (numS n)]) np1
    have hP1 := sameT s1 hP
    refine i_lc ⟨_, rfl, b3, rfl, ⟨_, hP1⟩, fun Dl nD => lr_map walk_tup ((ws ++ [numS m]).map V.str) (by rw [List.length_map, List.length_append, wv_len]; rfl) (by rw [wv_len]; omega) nD (fun _ s => sameT s hP1) (fun i x H2 H3 v hv s3 hy Q' kq => ?_) (fun _ _ _ => gName_mono) (fun H2 e6 s3 => ?_)⟩
    · obtain ⟨rfl, hy⟩ := hy
      rcases parts_at hv hy with ⟨w, rfl, rfl⟩ | ⟨rfl, rfl⟩
      · exact ⟨rfl, i_cb (i_cons (i_var rfl (i_nil (.inl ⟨w, rfl, kq _ (Same.refl _)⟩))))⟩
      · exact ⟨rfl, i_cb (i_cons (i_var rfl (i_nil (.inr ⟨_, rfl, k3, kq _ (Same.refl _)⟩))))⟩
    · have e1 := s3 _ _ (show (upd H p1 (.lst [.str k, .str (numS n)])) p1 = _ from upd_same)
      refine ⟨p1, Dl, _, _, rfl, rfl, e1, e6, ?_, fun p2 np2 => ⟨(" " : Str), p2, k :: numS n :: (ws ++ [numS m]), rfl, rfl, .inl (SqL.of ?_), ?_, ?_⟩⟩
      · rw [List.length_map, List.length_append]
        exact Nat.le_trans (show 2 + (ws.length + 1) ≤ 11 by omega) (by decide)
      · rw [upd_same, List.map_cons, List.map_cons]
        rfl
      · have z := parts_sum (n := m) (ws := ws) (by omega) h2 m0 m1
        rw [show (" " : Str).length = 1 by decide +kernel] at z ⊢
        simp only [List.map_cons, List.sum_cons, List.length_cons]
        have y : (List.map (fun w : Str => w.length) (ws ++ [numS m])).sum + (ws ++ [numS m]).length * 1 ≤ 1200 := z
        exact Nat.le_trans (show k.length + ((numS n).length + (List.map (fun w : Str => w.length) (ws ++ [numS m])).sum) + ((ws ++ [numS m]).length + 1 + 1) * 1 ≤ 1400 by omega) (by decide)
      · rw [join_two _ _ _ (by simp)]
        exact q _ ((s1.trans s3).trans (same_new np2))
theorem sc_vessels_line : FnScope ["vessels"] ["vessels"] (defScope s_vessels_line) := ⟨rfl, rfl, rfl, by decide +kernel, rfl, by decide +kernel, by decide +kernel⟩
theorem ok_vessels_line (T : Tx K mg) (F : FunD K "vessels_line" "vessels_line" (defArgs s_vessels_line) (defBody s_vessels_line) (defScope s_vessels_line) [] [] f fd)  : FnOk P w K mg base CX0 1 f fd ["vessels"] (spLineV K) := by
  refine F.ok sc_vessels_line (fun vs H Q E h => ?_) (fun cdv A outer s H vs Q E hr h => ?_)
  · obtain ⟨p, vn, rfl, hp, hV, q⟩ := h
    rfl
  · obtain ⟨p, vn, rfl, hp, hV, q⟩ := h
    refine ⟨_, PSs.nox (pss_one (ps_ret (pe_join pe_str (pe_op op_cat (pe_lst (pa_cons pe_str pa_nil)) (pe_callTy call_list_of (by rfl) (T.fr "list" (mem_at 9 rfl)) (by decide +kernel) (pa_cons (pv 0) pa_nil)))))), ?_⟩
    obtain ⟨nd, vne, v6, vok⟩ := hV
    have lvn : (sV vn).length = vn.length := sV_len vn
    refine i_ret ⟨⟨_, rfl⟩, i_op (i_lst (i_cons (i_c (i_nil ⟨by show 1 ≤ sizeLine; decide, fun p1 n1 => i_cb (i_cons (i_var rfl (i_nil ⟨p, _, rfl, .inr (sameT (same_new n1) hp), fun p2 n2 => ⟨p1, p2, [.str "vessels"], sV vn, rfl, rfl, same_new n2 _ _ upd_same, upd_same, ?_, fun p3 n3 => ⟨(" " : Str), p3, "vessels" :: vn, rfl, rfl, .inl (SqL.of ?_), ?_, ?_⟩⟩⟩)))⟩))))⟩
    · rw [lvn]
      exact Nat.le_trans (show 1 + vn.length ≤ 7 by omega) (by decide)
    · rw [upd_same]
      rfl
    · have z := sum_le (fun w : Str => w.length) 8 (("vessels" : Str) :: vn) (fun w hw => by
        rcases List.mem_cons.mp hw with rfl | hw
        · decide +kernel
        · exact (vok w hw).2.2.1)
      rw [show (" " : Str).length = 1 by decide +kernel]
      have z2 : (("vessels" : Str) :: vn).length ≤ 7 := by
        rw [List.length_cons]
        omega
      show (List.map (fun w : Str => w.length) _).sum + _ * 1 ≤ _
      omega
    · exact q _ (((same_new n1).trans (same_new n2)).trans (same_new n3))
end
end K10
set_option Elab.async false
set_option linter.all false
set_option maxRecDepth 100000
set_option maxHeartbeats 4000000
namespace K10
open PySem PySem.Spec PyProof.Rows L2 Er
section
variable {P : Program} {w : World} {K : PySem.W.Frag} {mg : Str → Option Value} {base : Heap} {f : Addr} {fd : FuncData}
theorem sc_yard_of : FnScope ["vessels", "steps", "samples", "lines", "step", "sample"] ["vessels", "steps", "samples"] (defScope s_yard_of) := ⟨rfl, rfl, rfl, by decide +kernel, rfl, by decide +kernel, by decide +kernel⟩
theorem ok_yard_of (T : Tx K mg) (F : FunD K "yard_of" "yard_of" (defArgs s_yard_of) (defBody s_yard_of) (defScope s_yard_of) [] [] f fd) (MK : Mk K (He.ga K "Yard") (He.ma K (He.ga K "Yard") "__init__")) {fdY : FuncData} (GY : FnOk P w K mg base (L2.CX P w) 6 (He.ma K (He.ga K "Yard") "__init__") fdY ["self", "text"] (spYardI K)) (bY : Binds K fdY ["self", "text"] [])
    {fdGLs : FuncData} (GLs : FnOk P w K mg base CX0 1 (He.ga K "step_line") fdGLs ["step"] (spLineS K)) (GLsF : FnT K "step_line" s_step_line fdGLs) (GLsB : Binds K fdGLs ["step"] [])
    {fdGLz : FuncData} (GLz : FnOk P w K mg base CX0 1 (He.ga K "sample_line") fdGLz ["sample"] (spLineZ K)) (GLzF : FnT K "sample_line" s_sample_line fdGLz) (GLzB : Binds K fdGLz ["sample"] [])
    {fdGLv : FuncData} (GLv : FnOk P w K mg base CX0 1 (He.ga K "vessels_line") fdGLv ["vessels"] (spLineV K)) (GLvF : FnT K "vessels_line" s_vessels_line fdGLv) (GLvB : Binds K fdGLv ["vessels"] []) : FnOk P w K mg base CX0 8 f fd ["vessels", "steps", "samples"] (spYardOf K) := by
  refine F.ok sc_yard_of (fun vs H Q E h => ?_) (fun cdv A outer s H vs Q E hr h => ?_)
  · obtain ⟨a, b, c, us, zs, vn, st, sa, rfl, hA, hB, hS, hC, hW, hd, q⟩ := h
    rfl
  · obtain ⟨a, b, c, us, zs, vn, st, sa, rfl, hA, hB, hS, hC, hW, hd, q⟩ := h
    have hr_GLs := hr.mono (by decide : 1 ≤ 7)
    have hr_GLz := hr.mono (by decide : 1 ≤ 7)
    have hr_GLv := hr.mono (by decide : 1 ≤ 7)
    have hr_GY := hr
    refine ⟨_, PSs.nox (pss_cons (ps_set (i := 3) sc_yard_of.nd rfl (Or.inl rfl) (pe_lst (pa_cons (pe_call GLv hr_GLv (by rfl) (T.gd "vessels_line" (mem_at 38 rfl)) GLvF.kp GLvB .nil pass0 (pa_cons (pv 0) pa_nil)) pa_nil)))
      (pss_cons (ps_expr (pe_bm PySem.F.plainAttrs_list PySem.F.slot_list_extend PySem.F.type_list_extend mt_extend (pv 3) (pa_cons (pe_lc (own := [("step", 4)]) (g := gName 4) (tt := tYes) rfl sc_yard_of.nd (pi_tup (pv 1)) (blkOk_by (N := ["vessels", "steps", "samples", "lines", "step", "sample"]) (sc := defScope s_yard_of) (by decide +kernel)) (fun _ _ _ _ _ => pg_name (i := 4) sc_yard_of.nd rfl (Or.inl rfl)) (fun _ _ _ _ _ => pts_nil) (fun _ _ _ _ _ => (pe_call GLs hr_GLs (by rfl) (T.gd "step_line" (mem_at 14 rfl)) GLsF.kp GLsB .nil pass0 (pa_cons (pv 4) pa_nil)))) pa_nil)))
      (pss_cons (ps_expr (pe_bm PySem.F.plainAttrs_list PySem.F.slot_list_extend PySem.F.type_list_extend mt_extend (pv 3) (pa_cons (pe_lc (own := [("sample", 5)]) (g := gName 5) (tt := tYes) rfl sc_yard_of.nd (pi_tup (pv 2)) (blkOk_by (N := ["vessels", "steps", "samples", "lines", "step", "sample"]) (sc := defScope s_yard_of) (by decide +kernel)) (fun _ _ _ _ _ => pg_name (i := 5) sc_yard_of.nd rfl (Or.inl rfl)) (fun _ _ _ _ _ => pts_nil) (fun _ _ _ _ _ => (pe_call GLz hr_GLz (by rfl) (T.gd "sample_line" (mem_at 15 rfl)) GLzF.kp GLzB .nil pass0 (pa_cons (pv 5) pa_nil)))) pa_nil)))
      (pss_one (ps_ret (pe_make MK GY hr_GY (by rfl) (T.gd "Yard" (mem_at 63 rfl)) bY .nil pass_no (pa_cons (pe_join pe_str (pv 3)) pa_nil))))))), ?_⟩
    obtain ⟨hV, hG, l14, ok, nd, l6⟩ := id hd
    have hst := (hG.minv hV.2.2.1).1
    have lus := hS.1
    have hrows := rows_ok hV hst l14 ok
    refine i_set (i_lst (i_cons (i_call (i_cons (i_var rfl (i_nil ⟨a, vn, rfl, hA, hV, fun H1 s1 => i_nil ⟨by show 1 ≤ sizeLine; decide, fun pr npr => ?_⟩⟩))))))
    have npr0 : H pr = none := none_back s1 npr
    replace s1 := s1.trans (same_new (o := .lst [.str (Txt.join " " ("vessels" :: vn))]) npr)
    have er : (upd H1 pr (.lst [.str (Txt.join " " ("vessels" :: vn))])) pr = some (.lst (sV [Txt.join " " ("vessels" :: vn)])) := upd_same
    generalize upd H1 pr (.lst [.str (Txt.join " " ("vessels" :: vn))]) = H2 at s1 er ⊢
    generalize hr0 : Txt.join " " ("vessels" :: vn) = r0 at er
    refine i_drops ⟨_, rfl, .inl ⟨rfl, _, SqL.of er⟩, i_cons (i_lc ⟨_, rfl, b, rfl, ⟨_, sameT s1 hB⟩, fun Dl nDl => ?_⟩)⟩
    refine lr_map (walk_tup (K := K) (a := b) (xs := us)) (st.map fun s => V.str (stepRow s.1 (s.2.getD 0))) (by rw [List.length_map, lus]) (by omega) nDl (fun H2 s => sameT s (sameT s1 hB)) (fun i x H2 H3 v hv s2 hy Q' k => ?_) (fun _ _ _ => gName_mono) (fun H2 e2 s2 => ?_)
    · obtain ⟨rfl, hx⟩ := hy
      rw [List.getElem?_map] at hv
      obtain ⟨s, hs, rfl⟩ := Option.map_eq_some_iff.mp hv
      obtain ⟨r, hr1, hr2⟩ := hS.2 i s hs
      cases Option.some.inj (hr1.symm.trans hx)
      obtain ⟨g1, g2, m, em, m1, m2⟩ := step_words hV (hst s (List.mem_of_getElem? hs))
      rw [em] at hr2 k
      exact ⟨rfl, i_call (i_cons (i_var rfl (i_nil ⟨r, _, m, rfl, sameT (s1.trans s2) hr2, by omega, fun w hw => Nat.le_trans (g2 w hw).1 (by decide), by omega, by omega, fun H' s' => k _ s'⟩)))⟩
    have er2 := s2 _ _ er
    have t2 := s1.trans s2
    refine i_nil ⟨pr, Dl, _, _, rfl, rfl, er2, e2, ?_, ?_⟩
    · rw [sV_len, List.length_map]
      exact Nat.le_trans (show [r0].length + st.length ≤ 15 by simp; omega) (by decide)
    have b3 : Same H (upd H2 pr (.lst (sV [r0] ++ st.map fun s => V.str (stepRow s.1 (s.2.getD 0))))) := same_mut t2 npr0
    have e3 : (upd H2 pr (.lst (sV [r0] ++ st.map fun s => V.str (stepRow s.1 (s.2.getD 0))))) pr = some (.lst (sV ([r0] ++ st.map fun s => stepRow s.1 (s.2.getD 0)))) := by
      rw [upd_same]
      unfold sV
      rw [List.map_append, List.map_map]
      rfl
    generalize upd H2 pr (.lst (sV [r0] ++ st.map fun s => V.str (stepRow s.1 (s.2.getD 0)))) = H3 at b3 e3 ⊢
    refine i_drops ⟨_, rfl, .inl ⟨rfl, _, SqL.of e3⟩, i_cons (i_lc ⟨_, rfl, c, rfl, ⟨_, sameT b3 hC⟩, fun Dm nDm => ?_⟩)⟩
    have lws := hW.length
    refine lr_map (walk_tup (K := K) (a := c) (xs := zs)) (sa.map fun z => V.str (sampRow z)) (by rw [List.length_map, lws]) (by omega) nDm (fun H4 s => sameT s (sameT b3 hC)) (fun i x H4 H5 v hv s4 hy Q' k => ?_) (fun _ _ _ => gName_mono) (fun H4 e4 s4 => ?_)
    · obtain ⟨rfl, hx⟩ := hy
      rw [List.getElem?_map] at hv
      obtain ⟨z, hz, rfl⟩ := Option.map_eq_some_iff.mp hv
      obtain ⟨k0, n, ws, m, rfl, hk, n0, n1, lw, hw, m0, m1⟩ := samp_words hV l14 (ok z (List.mem_of_getElem? hz))
      obtain ⟨vz, hvz, hsv⟩ := paired_at2 hW hz
      cases Option.some.inj (hvz.symm.trans hx)
      have lk := hk.1
      exact ⟨rfl, i_call (i_cons (i_var rfl (i_nil ⟨_, k0, n, ws, m, rfl, hsv.same (b3.trans s4), by omega, n0, n1, by omega, fun w hw2 => Nat.le_trans (hw w hw2).1 (by decide), m0, by omega, fun H' s' => k _ s'⟩)))⟩
    have e5 := s4 _ _ e3
    refine i_nil ⟨pr, Dm, _, _, rfl, rfl, e5, e4, ?_, ?_⟩
    · rw [sV_len, List.length_map, List.length_append, List.length_map]
      exact Nat.le_trans (show [r0].length + st.length + sa.length ≤ 21 by simp; omega) (by decide)
    have b6 : Same H (upd H4 pr (.lst (sV ([r0] ++ st.map fun s => stepRow s.1 (s.2.getD 0)) ++ sa.map fun z => V.str (sampRow z)))) := same_mut (b3.trans s4) npr0
    have e6 : (upd H4 pr (.lst (sV ([r0] ++ st.map fun s => stepRow s.1 (s.2.getD 0)) ++ sa.map fun z => V.str (sampRow z)))) pr = some (.lst ((yRows vn st sa).map V.str)) := by
      rw [upd_same]
      unfold sV yRows
      rw [hr0]
      simp only [List.map_append, List.map_map, List.map_cons, List.map_nil, List.append_assoc, List.cons_append, List.nil_append]
      rfl
    generalize upd H4 pr (.lst (sV ([r0] ++ st.map fun s => stepRow s.1 (s.2.getD 0)) ++ sa.map fun z => V.str (sampRow z))) = H6 at b6 e6 ⊢
    refine i_ret (i_cons ⟨⟨_, rfl⟩, _, rfl, ("\n" : Str), pr, yRows vn st sa, rfl, rfl, .inl (SqL.of e6), ?_, i_nil (mk_yard hd fun y H' s' hY => q y H' (b6.trans s') hY)⟩)
    have z := sum_le (fun w : Str => w.length) 70 (yRows vn st sa) fun w hw => (hrows w hw).1
    have z2 : (yRows vn st sa).length ≤ 21 := by
      unfold yRows
      rw [List.length_cons, List.length_append, List.length_map, List.length_map]
      omega
    rw [show ("\n" : Str).length = 1 by decide +kernel]
    show (List.map (fun w : Str => w.length) _).sum + _ * 1 ≤ _
    omega
theorem sc_Yard_bare : FnScope ["self"] ["self"] (defScope s_Yard_bare) := ⟨rfl, rfl, rfl, by decide +kernel, rfl, by decide +kernel, by decide +kernel⟩
theorem ok_Yard_bare (T : Tx K mg) (F : FunD K "bare" "Yard.bare" (defArgs s_Yard_bare) (defBody s_Yard_bare) (defScope s_Yard_bare) [] [] f fd) (CL : Cls K (He.ga K "Yard")) (NA : ∀ a ∈ (["vessels", "steps", "samples", "levels"] : List Str), NoAttr K (He.ga K "Yard") a)
    {fdGYo : FuncData} (GYo : FnOk P w K mg base CX0 8 (He.ga K "yard_of") fdGYo ["vessels", "steps", "samples"] (spYardOf K)) (GYoF : FnT K "yard_of" s_yard_of fdGYo) (GYoB : Binds K fdGYo ["vessels", "steps", "samples"] []) : FnOk P w K mg base CX0 9 f fd ["self"] (spBare K) := by
  refine F.ok sc_Yard_bare (fun vs H Q E h => ?_) (fun cdv A outer s H vs Q E hr h => ?_)
  · obtain ⟨y, vn, st, sa, rfl, hY, hV, hG, q⟩ := h
    rfl
  · obtain ⟨y, vn, st, sa, rfl, hY, hV, hG, q⟩ := h
    have hr_GYo := hr
    refine ⟨_, PSs.nox (pss_one (ps_ret (pe_call GYo hr_GYo (by rfl) (T.gd "yard_of" (mem_at 39 rfl)) GYoF.kp GYoB .nil pass0 (pa_cons (pe_fld (pv 0) rfl) (pa_cons (pe_fld (pv 0) rfl) (pa_cons (pe_tup pa_nil) pa_nil)))))), ?_⟩
    obtain ⟨dx, fs, a, b, c, d, us, vs, lw, hy, l1, l2, l3, l4, hA, dA, hB, hS, hC, hZ, hD, hL, h14, h6⟩ := hY.open
    exact i_ret (i_call (i_cons ⟨_, rfl, y, _, dx, fs, _, rfl, hy, CL, NA _ (mem_at 0 rfl), l1, i_cons ⟨_, rfl, y, _, dx, fs, _, rfl, hy, CL, NA _ (mem_at 1 rfl), l2, i_cons (i_tup (i_nil ⟨by show 0 ≤ sizeLine; decide, fun pe ne => i_nil ⟨a, b, pe, us, [], vn, st, [], rfl, sameT (same_new ne) hA, sameT (same_new ne) hB, hS.same (same_new ne), SqT.of upd_same, .nil, ⟨hV, hG, h14, (fun z hz => nomatch hz), .nil, Nat.zero_le _⟩, fun y2 H' s' hY2 => q y2 H' ((same_new ne).trans s') hY2⟩⟩))⟩⟩))
end
end K10
set_option Elab.async false
set_option linter.all false
set_option maxRecDepth 100000
set_option maxHeartbeats 4000000
namespace K10
open PySem PySem.Spec PyProof.Rows L2 Er
section
variable {P : Program} {w : World} {K : PySem.W.Frag} {mg : Str → Option Value} {base : Heap} {f : Addr} {fd : FuncData}
theorem sc_levels : FnScope ["own", "found", "deed", "later", "name"] ["own"] (defScope s_levels) := ⟨rfl, rfl, rfl, by decide +kernel, rfl, by decide +kernel, by decide +kernel⟩
theorem ok_levels (T : Tx K mg) (F : FunD K "_law_levels" "_law_levels" (defArgs s_levels) (defBody s_levels) (defScope s_levels) [] [] f fd) : FnOk P w K mg base CX0 1 f fd ["own"] (spLevels K) := by
  refine F.ok sc_levels (fun vs H Q E h => ?_) (fun cdv A outer s H vs Q E hr h => ?_)
  · obtain ⟨o, vn, st, sa, rfl, _⟩ := h
    rfl
  · obtain ⟨o, vn, st, sa, rfl, ⟨a, b, c, us, ws, hO, hA, hB, hS, hC, hW⟩, nd, hst, h1, h2, q⟩ := h
    refine ⟨_, PSs.nox (pss_cons (ps_set (i := 1) sc_levels.nd rfl (Or.inl rfl) (pe_lst (pa_cons (pe_callTy (call_dictP rfl) (by rfl) (T.fr "dict" (mem_at 4 rfl)) (by decide +kernel) (pa_cons (pe_lc (own := [("name", 4)]) (g := gName 4) (tt := tYes) rfl sc_levels.nd (pi_list (pe_dget (hu_of hr) (pv 0) pe_str (fun _ _ => rfl))) (blkOk_by (N := ["own", "found", "deed", "later", "name"]) (sc := defScope s_levels) (by decide +kernel)) (fun _ _ _ _ _ => pg_name (i := 4) sc_levels.nd rfl (Or.inl rfl)) (fun _ _ _ _ _ => pts_nil) (fun _ _ _ _ _ => (pe_tup (pa_cons (pv 4) (pa_cons pe_int pa_nil))))) pa_nil)) pa_nil)))
      (pss_cons (ps_for PassesOwn.never rfl (pi_list (pe_dget (hu_of hr) (pv 0) pe_str (fun _ _ => rfl))) (pg_name (i := 2) sc_levels.nd rfl (Or.inl rfl))
        (pss_cons (ps_set (i := 3) sc_levels.nd rfl (Or.inl rfl) (pe_callTy (call_dictP rfl) (by rfl) (T.fr "dict" (mem_at 4 rfl)) (by decide +kernel) (pa_cons (LiI.pe_listItems rfl (pe_ix ix_list (pv 1) (pe_un un_neg pe_int) (fun _ _ => rfl)) (by rfl) (T.fr "list" (mem_at 9 rfl)) (by decide +kernel)) pa_nil)))
        (pss_cons (ps_if (pt_cmpR op_in_seq (pe_ix ix_tup (pv 2) pe_int (fun _ _ => rfl)) (pe_tup (pa_cons pe_str (pa_cons pe_str pa_nil))) (by rfl))
          (pss_one (ps_dput (hu_of hr) (pv 3) (pe_ix ix_tup (pv 2) pe_int (fun _ _ => rfl)) (pe_op op_sub (pe_dget (hu_of hr) (pv 3) (pe_ix ix_tup (pv 2) pe_int (fun _ _ => rfl)) (fun _ _ => rfl)) (pe_ix ix_tup (pv 2) (pe_un un_neg pe_int) (fun _ _ => rfl))) (by rfl)))
          pss_nil)
        (pss_cons (ps_if (pt_cmpR op_ne (pe_ix ix_tup (pv 2) pe_int (fun _ _ => rfl)) pe_str (nomark _))
          (pss_one (ps_dput (hu_of hr) (pv 3) (pe_ix ix_tup (pv 2) (pe_un un_neg pe_int) (fun _ _ => rfl)) (pe_op op_add (pe_dget (hu_of hr) (pv 3) (pe_ix ix_tup (pv 2) (pe_un un_neg pe_int) (fun _ _ => rfl)) (fun _ _ => rfl)) (pe_ix ix_tup (pv 2) (pe_un un_neg pe_int) (fun _ _ => rfl))) (by rfl)))
          pss_nil)
        (pss_one (ps_expr (pe_bm PySem.F.plainAttrs_list PySem.F.slot_list_append PySem.F.type_list_append mt_append (pv 1) (pa_cons (pv 3) pa_nil))))))))
      (pss_one (ps_ret (pv 1))))), ?_⟩
    have lvn : (sV vn).length = vn.length := List.length_map ..
    refine i_set (i_lst (i_cons (i_cb (i_cons (i_lc ⟨_, rfl, o, _, rfl, get_dk (k := .inr "vessels") hO (own_a a b c), a, rfl, ⟨_, hA⟩, fun Dl nD => ?_⟩)))))
    refine lr_it (walk_list (K := K) (a := a) (xs := sV vn)) (fun i H2 => Same H H2 ∧ ∃ ts : List Addr, H2 Dl = some (.lst (ts.map V.ref)) ∧ Paired (fun (t : Addr) (kv : Key × V) => SqT K H2 t [kV kv.1, kv.2]) ts ((vn.take i).map fun x => ((.inr x : Key), V.int 0))) ?_ (fun i H2 _ hP => hP.1.seq hA) (fun i v H2 H3 hi hP hy => ?_) (fun H2 hP => ?_)
    · exact ⟨same_new nD, [], upd_same, .nil⟩
    · obtain ⟨s3, ts, eD, hts⟩ := hP
      obtain ⟨rfl, hv⟩ := hy
      rw [lvn] at hi
      have hv2 : v = .str vn[i] := by
        unfold sV at hv
        rw [List.getElem?_map, List.getElem?_eq_getElem hi] at hv
        exact (Option.some.inj hv).symm
      subst hv2
      refine ⟨rfl, i_yes (iteT (i_tup (i_cons (i_var rfl (i_cons (i_c (i_nil ⟨by show 2 ≤ sizeLine; decide, fun pt nt => ?_⟩)))))))⟩
      have s4 := same_new (o := .tup [.str vn[i], .int 0]) nt
      have eD4 := s4 _ _ eD
      have len : ts.length = i := by
        rw [pr_len hts, List.length_map, List.length_take]
        omega
      refine ⟨ts.map V.ref, eD4, ?_, same_mut (s3.trans s4) nD, ts ++ [pt], ?_, ?_⟩
      · rw [List.length_map, len]
        exact small1000 (by omega)
      · rw [upd_same, List.map_append]
        rfl
      · have k4 : KeepT K H3 (upd (upd H3 pt (.tup [.str vn[i], .int 0])) Dl (.lst (ts.map V.ref ++ [.ref pt]))) := (KeepT.of s4).trans (KeepT.put eD4)
        have e : ((vn.take (i + 1)).map fun x => ((.inr x : Key), V.int 0)) = ((vn.take i).map fun x => ((.inr x : Key), V.int 0)) ++ [(.inr vn[i], .int 0)] := by
          rw [List.take_add_one, List.getElem?_eq_getElem hi, List.map_append]
          rfl
        rw [e]
        refine pr_snoc (x := pt) (y := ((.inr vn[i] : Key), V.int 0)) (R := fun (t : Addr) (kv : Key × V) => SqT K (upd (upd H3 pt (.tup [.str vn[i], .int 0])) Dl (.lst (ts.map V.ref ++ [.ref pt]))) t [kV kv.1, kv.2]) (show SqT K _ pt [.str vn[i], .int 0] from (KeepT.put (K := K) eD4) _ _ (SqT.of upd_same)) (pr_mono (fun t kv z => k4 _ _ z) hts)
    · obtain ⟨s3, ts, eD, hts⟩ := hP
      rw [lvn, List.take_length, ← kv_zero] at hts
      refine i_nil ⟨Dl, ts, _, rfl, SqL.of eD, hts, fun p0 n0 => ?_⟩
      rw [merge_kv nd]
      refine i_nil ⟨by show 1 ≤ sizeLine; decide, fun l nl0 => ?_⟩
      have s4 := (s3.trans (same_new (o := .dK (kvL vn (List.replicate vn.length 0))) n0)).trans (same_new (o := .lst [.ref p0]) nl0)
      have nl : H l = none := none_back (s3.trans (same_new (o := .dK (kvL vn (List.replicate vn.length 0))) n0)) nl0
      have e0 : (upd (upd H2 p0 (.dK (kvL vn (List.replicate vn.length 0)))) l (.lst [.ref p0])) p0 = some (.dK (kvL vn (List.replicate vn.length 0))) := same_new nl0 _ _ upd_same
      have el : (upd (upd H2 p0 (.dK (kvL vn (List.replicate vn.length 0)))) l (.lst [.ref p0])) l = some (.lst ([p0].map V.ref)) := upd_same
      generalize upd (upd H2 p0 (.dK (kvL vn (List.replicate vn.length 0)))) l (.lst [.ref p0]) = H4 at s4 e0 el
      refine i_for ⟨_, rfl, o, _, rfl, get_dk (k := .inr "steps") (s4 _ _ hO) (own_b a b c), b, rfl, ⟨_, s4.seq hB⟩, ?_⟩
      refine fr_list (xs := us) (fun i σ H5 => ∃ (rs : List Addr) (x2 x3 : Option V), σ = [some (.ref o), some (.ref l), x2, x3, none] ∧ Same H H5 ∧ H5 l = some (.lst (rs.map V.ref)) ∧ Paired (fun r lv => H5 r = some (.dK (kvL vn lv))) rs ((List.range (i + 1)).map fun j => levAt vn (st.take j))) ?_ (fun i σ H5 _ hP => ?_) (fun i x σ H5 hx0 hP => ?_) (fun σ H5 hP => ?_)
      · exact ⟨[p0], none, none, rfl, s4, el, .cons e0 .nil⟩
      · obtain ⟨rs, x2, x3, rfl, s5, _⟩ := hP
        exact s5.seq hB
      · obtain ⟨rs, x2, x3, rfl, s5, hl, hrs⟩ := hP
        have hi : i < st.length := by
          rw [← hS.1]
          exact (List.getElem?_eq_some_iff.mp hx0).1
        have hx : st[i]? = some st[i] := List.getElem?_eq_getElem hi
        obtain ⟨r, hr0, hT0⟩ := hS.2 i _ hx
        rw [hr0] at hx0
        cases Option.some.inj hx0
        have hbs := hst _ (List.getElem_mem hi)
        generalize st[i] = s at hx hT0 hbs
        obtain ⟨w0, o0⟩ := s
        obtain ⟨⟨n, rfl, hn1, hn2⟩, hcs⟩ := step_cases hbs
        have lrs : rs.length = i + 1 := by
          rw [pr_len hrs, List.length_map, List.length_range]
        obtain ⟨rl, hrl, hrd⟩ := pr_at (i := i) (y := levAt vn (st.take i)) hrs (by rw [List.getElem?_map, List.getElem?_range (by omega)]; rfl)
        have hlast : atI (rs.map V.ref) (-1) = some (.ref rl) := at_end (by
          rw [List.getLast?_eq_getElem?, List.length_map, lrs, List.getElem?_map, show i + 1 - 1 = i from rfl, hrl]
          rfl)
        refine i_set (i_cb (i_cons ⟨_, rfl, 1, rfl, l, rs.map V.ref, -1, .ref rl, rfl, rfl, SqL.of hl, hlast, rl, _, rfl, hrd, fun H6 p6 ts6 s6 np6 nts np6' hp6 hpr6 => ?_⟩))
        refine i_nil ⟨p6, ts6, _, rfl, SqL.of hp6, pr_mono (fun t kv z => SqT.of z) hpr6, fun pd npd => ?_⟩
        rw [merge_kv nd]
        have LEN : (levAt vn (st.take i)).length = vn.length := levAt_len
        have s7 := same_new (o := .dK (kvL vn (levAt vn (st.take i)))) npd
        have sA : Same H5 (upd H6 pd (.dK (kvL vn (levAt vn (st.take i))))) := fun b o e => s7 _ _ (s6 _ _ e)
        have hpd : (upd H6 pd (.dK (kvL vn (levAt vn (st.take i))))) pd = some (.dK (kvL vn (levAt vn (st.take i)))) := upd_same
        have npd0 : H5 pd = none := none_back (fun b o e => s6 _ _ e) npd
        generalize upd H6 pd (.dK (kvL vn (levAt vn (st.take i)))) = H7 at sA hpd
        have hT : SqT K H7 r (wv w0 (some n)) := sameT (s5.trans sA) hT0
        rcases hcs with ⟨x, hxv, rfl | rfl | rfl⟩ | ⟨x, y, hxv, hyv, hxy, rfl⟩
        · refine i_if0 (i_test (i_op ⟨_, rfl, i_c (r_ixT hT rfl (i_tup2 fun pt npt => r_in (.inr (SqT.of upd_same)) rfl rfl (inV_sV _ ["pour", "draw"]) ⟨_, rfl, ?_⟩))⟩))
          rw [show decide (("fill" : Str) ∈ (["pour", "draw"] : List Str)) = false by decide +kernel]
          have s8 := same_new (o := .tup [.str "pour", .str "draw"]) npt
          have hT8 := sameT s8 hT
          have hpd8 := s8 _ _ hpd
          have sB := sA.trans s8
          generalize upd H7 pt (.tup [.str "pour", .str "draw"]) = H8 at hT8 hpd8 sB ⊢
          refine iteF (i_if0 (i_test (i_op ⟨_, rfl, i_c (r_ixT hT8 rfl (i_c (r_neS ⟨_, rfl, ?_⟩)))⟩)))
          rw [show decide (("fill" : Str) ≠ "draw") = true by decide +kernel]
          refine iteT (i_dputL (i_op ⟨_, rfl, ⟨_, rfl, 2, rfl, r_ixT hT8 rfl ⟨pd, _, rfl, get_dk (k := .inr x) hpd8 (kv_get LEN hxv), ⟨_, rfl, 1, rfl, r_ixT hT8 rfl ⟨_, _, rfl, rfl, ⟨_, rfl, ⟨_, rfl, 2, rfl, r_ixT hT8 rfl ⟨pd, _, rfl, .inl ⟨_, .inr x, hpd8, rfl, by rw [kv_len LEN]; exact Nat.lt_of_le_of_lt h2 (by decide), rfl⟩, ?_⟩⟩⟩⟩⟩⟩⟩⟩))
          rw [kv_put LEN nd hxv, ← mov_fill (show ("fill" : Str) ≠ "draw" by decide +kernel)]
          obtain ⟨sC, hlC, hrC⟩ := put_keep (o := .dK (kvL vn (movedL vn (levAt vn (st.take i)) ["fill", x] n))) npd0 sB hl hrs
          dsimp only
          refine i_drop ⟨_, rfl, .inl ⟨rfl, _, SqL.of hlC⟩, i_cons (i_var rfl (i_nil ⟨l, rs.map V.ref, _, rfl, rfl, hlC, ?_, ?_⟩))⟩
          · rw [List.length_map, lrs]
            exact small1000 (by omega)
          · obtain ⟨z1, z2, z3⟩ := lev_end hx nl (s5.trans sC) hlC hrC upd_same
            exact ⟨rs ++ [pd], _, _, rfl, z1, z2, z3⟩
        · refine i_if0 (i_test (i_op ⟨_, rfl, i_c (r_ixT hT rfl (i_tup2 fun pt npt => r_in (.inr (SqT.of upd_same)) rfl rfl (inV_sV _ ["pour", "draw"]) ⟨_, rfl, ?_⟩))⟩))
          rw [show decide (("dye" : Str) ∈ (["pour", "draw"] : List Str)) = false by decide +kernel]
          have s8 := same_new (o := .tup [.str "pour", .str "draw"]) npt
          have hT8 := sameT s8 hT
          have hpd8 := s8 _ _ hpd
          have sB := sA.trans s8
          generalize upd H7 pt (.tup [.str "pour", .str "draw"]) = H8 at hT8 hpd8 sB ⊢
          refine iteF (i_if0 (i_test (i_op ⟨_, rfl, i_c (r_ixT hT8 rfl (i_c (r_neS ⟨_, rfl, ?_⟩)))⟩)))
          rw [show decide (("dye" : Str) ≠ "draw") = true by decide +kernel]
          refine iteT (i_dputL (i_op ⟨_, rfl, ⟨_, rfl, 2, rfl, r_ixT hT8 rfl ⟨pd, _, rfl, get_dk (k := .inr x) hpd8 (kv_get LEN hxv), ⟨_, rfl, 1, rfl, r_ixT hT8 rfl ⟨_, _, rfl, rfl, ⟨_, rfl, ⟨_, rfl, 2, rfl, r_ixT hT8 rfl ⟨pd, _, rfl, .inl ⟨_, .inr x, hpd8, rfl, by rw [kv_len LEN]; exact Nat.lt_of_le_of_lt h2 (by decide), rfl⟩, ?_⟩⟩⟩⟩⟩⟩⟩⟩))
          rw [kv_put LEN nd hxv, ← mov_fill (show ("dye" : Str) ≠ "draw" by decide +kernel)]
          obtain ⟨sC, hlC, hrC⟩ := put_keep (o := .dK (kvL vn (movedL vn (levAt vn (st.take i)) ["dye", x] n))) npd0 sB hl hrs
          dsimp only
          refine i_drop ⟨_, rfl, .inl ⟨rfl, _, SqL.of hlC⟩, i_cons (i_var rfl (i_nil ⟨l, rs.map V.ref, _, rfl, rfl, hlC, ?_, ?_⟩))⟩
          · rw [List.length_map, lrs]
            exact small1000 (by omega)
          · obtain ⟨z1, z2, z3⟩ := lev_end hx nl (s5.trans sC) hlC hrC upd_same
            exact ⟨rs ++ [pd], _, _, rfl, z1, z2, z3⟩
        · refine i_if0 (i_test (i_op ⟨_, rfl, i_c (r_ixT hT rfl (i_tup2 fun pt npt => r_in (.inr (SqT.of upd_same)) rfl rfl (inV_sV _ ["pour", "draw"]) ⟨_, rfl, ?_⟩))⟩))
          rw [show decide (("draw" : Str) ∈ (["pour", "draw"] : List Str)) = true by decide +kernel]
          have s8 := same_new (o := .tup [.str "pour", .str "draw"]) npt
          have hT8 := sameT s8 hT
          have hpd8 := s8 _ _ hpd
          have sB := sA.trans s8
          generalize upd H7 pt (.tup [.str "pour", .str "draw"]) = H8 at hT8 hpd8 sB ⊢
          refine iteT (i_dputL (i_op ⟨_, rfl, ⟨_, rfl, i_c (r_ixT hT8 rfl ⟨pd, _, rfl, get_dk (k := .inr x) hpd8 (kv_get LEN hxv), ⟨_, rfl, 1, rfl, r_ixT hT8 rfl ⟨_, _, rfl, rfl, ⟨_, rfl, ⟨_, rfl, i_c (r_ixT hT8 rfl ⟨pd, _, rfl, .inl ⟨_, .inr x, hpd8, rfl, by rw [kv_len LEN]; exact Nat.lt_of_le_of_lt h2 (by decide), rfl⟩, ?_⟩)⟩⟩⟩⟩⟩)⟩⟩))
          rw [kv_put LEN nd hxv, ← mov_draw]
          obtain ⟨sC, hlC, hrC⟩ := put_keep (o := .dK (kvL vn (movedL vn (levAt vn (st.take i)) ["draw", x] n))) npd0 sB hl hrs
          have hT9 := sameT (fun b o e => ((s5.trans sC)) b o e) hT0
          dsimp only
          refine i_if0 (i_test (i_op ⟨_, rfl, i_c (r_ixT hT9 rfl (i_c (r_neS ⟨_, rfl, ?_⟩)))⟩))
          rw [show decide (("draw" : Str) ≠ "draw") = false by decide +kernel]
          refine iteF ?_
          try dsimp only
          refine i_drop ⟨_, rfl, .inl ⟨rfl, _, SqL.of hlC⟩, i_cons (i_var rfl (i_nil ⟨l, rs.map V.ref, _, rfl, rfl, hlC, ?_, ?_⟩))⟩
          · rw [List.length_map, lrs]
            exact small1000 (by omega)
          · obtain ⟨z1, z2, z3⟩ := lev_end hx nl (s5.trans sC) hlC hrC upd_same
            exact ⟨rs ++ [pd], _, _, rfl, z1, z2, z3⟩
        · refine i_if0 (i_test (i_op ⟨_, rfl, i_c (r_ixT hT rfl (i_tup2 fun pt npt => r_in (.inr (SqT.of upd_same)) rfl rfl (inV_sV _ ["pour", "draw"]) ⟨_, rfl, ?_⟩))⟩))
          rw [show decide (("pour" : Str) ∈ (["pour", "draw"] : List Str)) = true by decide +kernel]
          have s8 := same_new (o := .tup [.str "pour", .str "draw"]) npt
          have hT8 := sameT s8 hT
          have hpd8 := s8 _ _ hpd
          have sB := sA.trans s8
          generalize upd H7 pt (.tup [.str "pour", .str "draw"]) = H8 at hT8 hpd8 sB ⊢
          refine iteT (i_dputL (i_op ⟨_, rfl, ⟨_, rfl, i_c (r_ixT hT8 rfl ⟨pd, _, rfl, get_dk (k := .inr x) hpd8 (kv_get LEN hxv), ⟨_, rfl, 1, rfl, r_ixT hT8 rfl ⟨_, _, rfl, rfl, ⟨_, rfl, ⟨_, rfl, i_c (r_ixT hT8 rfl ⟨pd, _, rfl, .inl ⟨_, .inr x, hpd8, rfl, by rw [kv_len LEN]; exact Nat.lt_of_le_of_lt h2 (by decide), rfl⟩, ?_⟩)⟩⟩⟩⟩⟩)⟩⟩))
          rw [kv_put LEN nd hxv]
          obtain ⟨sC, hlC, hrC⟩ := put_keep (o := .dK (kvL vn ((levAt vn (st.take i)).set (vn.idxOf x) ((levAt vn (st.take i)).getD (vn.idxOf x) 0 - n)))) npd0 sB hl hrs
          have hT9 := sameT (fun b o e => ((s5.trans sC)) b o e) hT0
          have LEN2 : (((levAt vn (st.take i)).set (vn.idxOf x) ((levAt vn (st.take i)).getD (vn.idxOf x) 0 - n))).length = vn.length := by rw [List.length_set, LEN]
          have hpd9 : (upd H8 pd (.dK (kvL vn ((levAt vn (st.take i)).set (vn.idxOf x) ((levAt vn (st.take i)).getD (vn.idxOf x) 0 - n))))) pd = some (.dK (kvL vn ((levAt vn (st.take i)).set (vn.idxOf x) ((levAt vn (st.take i)).getD (vn.idxOf x) 0 - n)))) := upd_same
          generalize upd H8 pd (.dK (kvL vn ((levAt vn (st.take i)).set (vn.idxOf x) ((levAt vn (st.take i)).getD (vn.idxOf x) 0 - n)))) = H9 at sC hlC hrC hT9 hpd9 ⊢
          dsimp only
          refine i_if0 (i_test (i_op ⟨_, rfl, i_c (r_ixT hT9 rfl (i_c (r_neS ⟨_, rfl, ?_⟩)))⟩))
          rw [show decide (("pour" : Str) ≠ "draw") = true by decide +kernel]
          refine iteT (i_dputL (i_op ⟨_, rfl, ⟨_, rfl, 2, rfl, r_ixT hT9 rfl ⟨pd, _, rfl, get_dk (k := .inr y) hpd9 (kv_get LEN2 hyv), ⟨_, rfl, 1, rfl, r_ixT hT9 rfl ⟨_, _, rfl, rfl, ⟨_, rfl, ⟨_, rfl, 2, rfl, r_ixT hT9 rfl ⟨pd, _, rfl, .inl ⟨_, .inr y, hpd9, rfl, by rw [kv_len LEN2]; exact Nat.lt_of_le_of_lt h2 (by decide), rfl⟩, ?_⟩⟩⟩⟩⟩⟩⟩⟩))
          rw [kv_put LEN2 nd hyv, ← mov_pour (k := "pour")]
          obtain ⟨sD, hlD, hrD⟩ := put_keep (o := .dK (kvL vn (movedL vn (levAt vn (st.take i)) ["pour", x, y] n))) npd0 sC hl hrs
          dsimp only
          refine i_drop ⟨_, rfl, .inl ⟨rfl, _, SqL.of hlD⟩, i_cons (i_var rfl (i_nil ⟨l, rs.map V.ref, _, rfl, rfl, hlD, ?_, ?_⟩))⟩
          · rw [List.length_map, lrs]
            exact small1000 (by omega)
          · obtain ⟨z1, z2, z3⟩ := lev_end hx nl (s5.trans sD) hlD hrD upd_same
            exact ⟨rs ++ [pd], _, _, rfl, z1, z2, z3⟩
      · obtain ⟨rs, x2, x3, rfl, s5, hl, hrs⟩ := hP
        rw [hS.1] at hrs
        exact i_ret (i_var rfl (q l rs H5 s5 nl hl hrs))
end
end K10
set_option Elab.async false
set_option linter.all false
set_option maxRecDepth 100000
set_option maxHeartbeats 4000000
namespace K10
open PySem PySem.Spec PyProof.Rows L2 Er
section
variable {P : Program} {w : World} {K : PySem.W.Frag} {mg : Str → Option Value} {base : Heap} {f : Addr} {fd : FuncData}
theorem sc_of : FnScope ["pot", "some"] ["pot", "some"] (defScope s_of) := ⟨rfl, rfl, rfl, by decide +kernel, rfl, by decide +kernel, by decide +kernel⟩
theorem ok_of (T : Tx K mg) (F : FunD K "_law_of" "_law_of" (defArgs s_of) (defBody s_of) (defScope s_of) [] [] f fd) {fdGTk : FuncData} (GTk : FnOk P w K mg base CX0 1 (He.ga K "_law_take") fdGTk ["pot", "upto"] (spTake)) (GTkF : FnT K "_law_take" s_take fdGTk) (GTkB : Binds K fdGTk ["pot", "upto"] []) : FnOk P w K mg base CX0 2 f fd ["pot", "some"] (spOf K) := by
  refine F.ok sc_of (fun vs H Q E h => ?_) (fun cdv A outer s H vs Q E hr h => ?_)
  · obtain ⟨p, l, xs, n, rfl, _⟩ := h
    rfl
  · obtain ⟨p, l, xs, n, rfl, hl, h0, h1, hp, hn, k⟩ := h
    have hr_GTk := hr
    refine ⟨_, PSs.nox (pss_one (ps_ret (pe_ix ix_list (pv 1) (pe_call GTk hr_GTk (by rfl) (T.gd "_law_take" (mem_at 41 rfl)) GTkF.kp GTkB .nil pass0 (pa_cons (pv 0) (pa_cons (pe_callB call_len_seq (by rfl) (T.fr "len" (mem_at 8 rfl)) PySem.boot_len (pa_cons (pv 1) pa_nil)) pa_nil))) (fun _ _ => rfl)))), ?_⟩
    refine ⟨.ref l, rfl, .ref p, rfl, .ref l, rfl, l, xs, rfl, .inl (sql_but hl), p, xs.length, n, rfl, by omega, by omega, hp, hn, fun H' r sm hp' r0 r1 => ?_⟩
    have hj : r.toNat < xs.length := by omega
    have er : r = ((r.toNat : Nat) : Int) := by omega
    have hi : xs[r.toNat]? = some xs[r.toNat] := List.getElem?_eq_getElem hj
    exact ⟨l, xs, r, xs[r.toNat], rfl, rfl, sql_but (sm.seq hl), (by have z := atI_nat (xs := xs) hi; rw [← er] at z; exact z), k H' _ sm hp' (List.getElem_mem hj)⟩
theorem sc_some : FnScope ["pot", "pool", "width", "found", "lap"] ["pot", "pool", "width"] (defScope s_some) := ⟨rfl, rfl, rfl, by decide +kernel, rfl, by decide +kernel, by decide +kernel⟩
theorem ok_some (T : Tx K mg) (F : FunD K "_law_some" "_law_some" (defArgs s_some) (defBody s_some) (defScope s_some) [] [] f fd) {fdGTk : FuncData} (GTk : FnOk P w K mg base CX0 1 (He.ga K "_law_take") fdGTk ["pot", "upto"] (spTake)) (GTkF : FnT K "_law_take" s_take fdGTk) (GTkB : Binds K fdGTk ["pot", "upto"] []) : FnOk P w K mg base CX0 2 f fd ["pot", "pool", "width"] (spSome K) := by
  refine F.ok sc_some (fun vs H Q E h => ?_) (fun cdv A outer s H vs Q E hr h => ?_)
  · obtain ⟨p, l, m, ps, n, rfl, _⟩ := h
    rfl
  · obtain ⟨p, l, m, ps, n, rfl, hL, hps, hm, hnd, hP, hn, q⟩ := h
    have hr_GTk := hr
    refine ⟨_, PSs.nox (pss_cons (ps_par (i := 1) (j := 3) (by rfl) sc_some.nd rfl rfl (by decide) rfl rfl (pa_cons (pe_callTy call_list_of (by rfl) (T.fr "list" (mem_at 9 rfl)) (by decide +kernel) (pa_cons (pv 1) pa_nil)) (pa_cons (pe_lst pa_nil) pa_nil)) (by rfl))
      (pss_cons (ps_for PassesOwn.never rfl (pi_range1 (by rfl) (T.fr "range" (mem_at 12 rfl)) (pa_cons (pv 2) pa_nil)) (pg_name (i := 4) sc_some.nd rfl (Or.inl rfl))
        (pss_one (ps_expr (pe_bm PySem.F.plainAttrs_list PySem.F.slot_list_append PySem.F.type_list_append mt_append (pv 3) (pa_cons (pe_bm PySem.F.plainAttrs_list PySem.F.slot_list_pop PySem.F.type_list_pop mt_popAt (pv 1) (pa_cons (pe_call GTk hr_GTk (by rfl) (T.gd "_law_take" (mem_at 41 rfl)) GTkF.kp GTkB .nil pass0 (pa_cons (pv 0) (pa_cons (pe_callB call_len_seq (by rfl) (T.fr "len" (mem_at 8 rfl)) PySem.boot_len (pa_cons (pv 1) pa_nil)) pa_nil))) pa_nil)) pa_nil)))))
      (pss_one (ps_ret (pv 3))))), ?_⟩
    have hL0 : SqL K H l (sV ps) := Same.seq but_same hL
    have hp0 : H p ≠ none := pot_some hP
    refine i_par (i_cons (i_cb (i_cons (i_var rfl (i_nil ⟨l, sV ps, rfl, .inl hL0, fun pl npl => ?_⟩)))))
    refine i_cons (i_lst (i_nil ⟨by show 0 ≤ sizeLine; decide, fun pf npf => ?_⟩))
    refine i_nil ⟨_, _, rfl, ?_⟩
    have nf0 : H pf = none := by
      cases e : H pf with
      | none => rfl
      | some o =>
        rw [same_new npl _ _ e] at npf
        cases npf
    have dlf : pl ≠ pf := fun z => by
      rw [← z, upd_same] at npf
      cases npf
    have dp : pl ≠ p := fun z => hp0 (z ▸ npl)
    have fp : pf ≠ p := fun z => hp0 (z ▸ nf0)
    refine i_for (i_cons (i_var rfl (i_nil ⟨m, rfl, ?_, ?_, fr_range (n := m) (fun i σ' H1 => ∃ r ws rest, σ' = [some (.ref p), some (.ref pl), some (.int (m : Int)), some (.ref pf), r] ∧ H1 pl = some (.lst (sV rest)) ∧ H1 pf = some (.lst (sV ws)) ∧ ws.length = i ∧ rest.length + i = ps.length ∧ (ws ++ rest).Perm ps ∧ Same (But H p) (But H1 p) ∧ Pot H1 p (n + i)) ?_ (fun i σ' H1 hi hI => ?_) (fun σ' H1 hI => ?_)⟩)))
    · omega
    · omega
    · refine ⟨none, [], ps, rfl, (upd_ne dlf).trans upd_same, upd_same, rfl, rfl, List.Perm.refl _, ?_, ?_⟩
      · exact but_mut nf0 hp0 (but_mut npl hp0 (Same.refl _))
      · have e : n + ((0 : Nat) : Int) = n := by omega
        rw [e]
        exact (hP.new npl).new npf
    · obtain ⟨r, ws, rest, rfl, e1, e2, l1, l2, pm, sm, hPi⟩ := hI
      have lr : (sV rest).length = rest.length := sV_len _
      refine i_drop ⟨.ref pf, rfl, .inl ⟨rfl, _, SqL.of e2⟩, i_cons ⟨.ref pl, rfl, .inl ⟨rfl, _, SqL.of e1⟩, ?_⟩⟩
      refine i_cons (i_call (i_cons (i_var rfl (i_cons (i_cb (i_cons (i_var rfl (i_nil ⟨pl, _, rfl, .inl (SqL.of e1), ?_⟩))))))))
      rw [lr]
      refine i_nil ⟨p, rest.length, n + i, rfl, by omega, by omega, hPi, by omega, fun H2 z s2 hP2 z0 z1 => ?_⟩
      have hk : z.toNat < rest.length := by omega
      have ey := List.getElem?_eq_getElem hk
      generalize rest[z.toNat] = y at ey
      have f1 := off_pot s2 dp e1
      have f2 := off_pot s2 fp e2
      have si : seqIndex? z (sV rest).length = some z.toNat := by
        rw [lr]
        exact seqIndex_of z0 z1
      refine i_nil ⟨pl, sV rest, z, z.toNat, .str y, rfl, rfl, f1, by omega, by omega, si, sV_at ey, ?_⟩
      have g2 : (upd H2 pl (.lst ((sV rest).eraseIdx z.toNat))) pf = some (.lst (sV ws)) := (upd_ne (Ne.symm dlf)).trans f2
      refine i_nil ⟨pf, sV ws, .str y, rfl, rfl, g2, ?_, ?_⟩
      · rw [sV_len]
        exact small1000 (by omega)
      · have hp2 : H2 p ≠ none := pot_some hP2
        have s12 := sm.trans s2
        refine ⟨_, ws ++ [y], rest.eraseIdx z.toNat, rfl, ?_, ?_, ?_, ?_, perm_take pm ey, ?_, ?_⟩
        · rw [upd_ne dlf, upd_same, sV_erase]
        · rw [upd_same, sV_snoc]
        · rw [List.length_append, l1]
          rfl
        · rw [List.length_eraseIdx, if_pos hk]
          omega
        · exact but_mut nf0 hp0 (but_mut npl hp0 s12)
        · obtain ⟨a, b, c, h1, h2⟩ := hP2
          have e : n + ((i + 1 : Nat) : Int) = n + i + 1 := by omega
          rw [e]
          exact ⟨a, b, c, (upd_ne (Ne.symm fp)).trans ((upd_ne (Ne.symm dp)).trans h1), h2⟩
    · obtain ⟨r, ws, rest, rfl, e1, e2, l1, l2, pm, sm, hPi⟩ := hI
      have nd := (pm.nodup_iff).mpr hnd
      exact i_ret (i_var rfl (q H1 pf ws sm hPi nf0 e2 l1 (List.nodup_append.mp nd).1 fun x hx => pm.mem_iff.mp (List.mem_append_left _ hx)))
end
end K10
set_option Elab.async false
set_option linter.all false
set_option maxRecDepth 100000
set_option maxHeartbeats 4000000
namespace K10
open PySem PySem.Spec PyProof.Rows L2 Er
section
variable {P : Program} {w : World} {K : PySem.W.Frag} {mg : Str → Option Value} {base : Heap} {f : Addr} {fd : FuncData}
theorem sc_deed : FnScope ["pot", "own", "level", "great", "full", "draws", "words", "word", "name", "top", "size", "deed", "far"] ["pot", "own", "level", "great"] (defScope s_deed) := ⟨rfl, rfl, rfl, by decide +kernel, rfl, by decide +kernel, by decide +kernel⟩
theorem ok_deed (T : Tx K mg) (F : FunD K "_law_deed" "_law_deed" (defArgs s_deed) (defBody s_deed) (defScope s_deed) [] [] f fd) {fdGTk : FuncData} (GTk : FnOk P w K mg base CX0 1 (He.ga K "_law_take") fdGTk ["pot", "upto"] (spTake)) (GTkF : FnT K "_law_take" s_take fdGTk) (GTkB : Binds K fdGTk ["pot", "upto"] [])
    {fdGOf : FuncData} (GOf : FnOk P w K mg base CX0 2 (He.ga K "_law_of") fdGOf ["pot", "some"] (spOf K)) (GOfF : FnT K "_law_of" s_of fdGOf) (GOfB : Binds K fdGOf ["pot", "some"] []) : FnOk P w K mg base CX0 3 f fd ["pot", "own", "level", "great"] (spDeedG K) := by
  refine F.ok sc_deed (fun vs H Q E h => ?_) (fun cdv A outer s H vs Q E hr h => ?_)
  · obtain ⟨p, o, d, g, n, vn, st, sa, rfl, _⟩ := h
    rfl
  · obtain ⟨p, o, d, g, n, vn, st, sa, rfl, hO, hV, hL, hM, h14, g1, g2, hP, hn, q⟩ := h
    have hr_GTk := hr.mono (by decide : 1 ≤ 2)
    have hr_GOf := hr
    refine ⟨_, PSs.nox (pss_cons (ps_setLc (i := 4) (own := [("name", 8)]) (g := gName 8) (tt := tTest (tOp (rI0 fun i j => V.bl (decide (j < i))) (tDGet (tVar 2) (tVar 8)) (tC (.int 0)))) rfl sc_deed.nd rfl rfl (sw_true rfl rfl rfl (by decide +kernel)) (pi_list (pe_dget (hu_of hr) (pv 1) pe_str (fun _ _ => rfl))) (blkOk_by (N := ["pot", "own", "level", "great", "full", "draws", "words", "word", "name", "top", "size", "deed", "far"]) (sc := defScope s_deed) (by decide +kernel)) (fun _ _ _ _ _ => pg_name (i := 8) sc_deed.nd rfl (Or.inl rfl)) (fun _ _ _ _ _ => (pts_one (pt_cmpR op_gt (pe_dget (hu_of hr) (pv 2) (pv 8) (fun _ _ => rfl)) pe_int (nomark _)))) (fun _ _ _ _ _ => (pv 8)))
      (pss_cons (ps_set (i := 5) sc_deed.nd rfl (Or.inl rfl) (pe_callB call_len_seq (by rfl) (T.fr "len" (mem_at 8 rfl)) PySem.boot_len (pa_cons (pe_lc (own := [("deed", 11)]) (g := gName 11) (tt := tTest (tOp rEq (tOp (rIxT K) (tVar 11) (tC (.int 0))) (tC (.str "draw")))) rfl sc_deed.nd (pi_list (pe_dget (hu_of hr) (pv 1) pe_str (fun _ _ => rfl))) (blkOk_by (N := ["pot", "own", "level", "great", "full", "draws", "words", "word", "name", "top", "size", "deed", "far"]) (sc := defScope s_deed) (by decide +kernel)) (fun _ _ _ _ _ => pg_name (i := 11) sc_deed.nd rfl (Or.inl rfl)) (fun _ _ _ _ _ => (pts_one (pt_cmpR op_eq (pe_ix ix_tup (pv 11) pe_int (fun _ _ => rfl)) pe_str (nomark _)))) (fun _ _ _ _ _ => pe_int)) pa_nil)))
      (pss_cons (ps_set (i := 6) sc_deed.nd rfl (Or.inl rfl) (pe_op op_cat (pe_lst (pa_cons pe_str (pa_cons pe_str pa_nil))) (pe_ifExp (PW.pt (pw_and (pt_cmpR (op_neD hr.units) (pv 4) (pe_lst pa_nil) (nomark _)) (pw_and1 (pt_cmpR op_gt (pe_callB call_len_seq (by rfl) (T.fr "len" (mem_at 8 rfl)) PySem.boot_len (pa_cons (pe_dget (hu_of hr) (pv 1) pe_str (fun _ _ => rfl)) pa_nil)) pe_int (nomark _))))) (pe_op op_rep (pe_lst (pa_cons pe_str pa_nil)) pe_int) (pe_lst pa_nil))))
      (pss_cons (ps_set (i := 6) sc_deed.nd rfl (Or.inl rfl) (pe_op op_cat (pv 6) (pe_ifExp (PW.pt (pw_and (pt_cmpR (op_neD hr.units) (pv 4) (pe_lst pa_nil) (nomark _)) (pw_and1 (pt_cmpR op_lt (pe_op op_add (pe_callB call_len_seq (by rfl) (T.fr "len" (mem_at 8 rfl)) PySem.boot_len (pa_cons (pe_dget (hu_of hr) (pv 1) pe_str (fun _ _ => rfl)) pa_nil)) (pv 5)) pe_int (nomark _))))) (pe_op op_rep (pe_lst (pa_cons pe_str pa_nil)) pe_int) (pe_lst pa_nil))))
      (pss_cons (ps_set (i := 7) sc_deed.nd rfl (Or.inl rfl) (pe_call GOf hr_GOf (by rfl) (T.gd "_law_of" (mem_at 42 rfl)) GOfF.kp GOfB .nil pass0 (pa_cons (pv 0) (pa_cons (pv 6) pa_nil))))
      (pss_cons (ps_if (pt_cmpR op_in_seq (pv 7) (pe_tup (pa_cons pe_str (pa_cons pe_str pa_nil))) (by rfl))
        (pss_one (ps_ret (pe_tup (pa_cons (pv 7) (pa_cons (pe_call GOf hr_GOf (by rfl) (T.gd "_law_of" (mem_at 42 rfl)) GOfF.kp GOfB .nil pass0 (pa_cons (pv 0) (pa_cons (pe_dget (hu_of hr) (pv 1) pe_str (fun _ _ => rfl)) pa_nil))) (pa_cons (pe_call GOf hr_GOf (by rfl) (T.gd "_law_of" (mem_at 42 rfl)) GOfF.kp GOfB .nil pass0 (pa_cons (pv 0) (pa_cons (pe_lst (pa_cons pe_int (pa_cons pe_int (pa_cons pe_int (pa_cons (pe_op op_add pe_int (pe_call GTk hr_GTk (by rfl) (T.gd "_law_take" (mem_at 41 rfl)) GTkF.kp GTkB .nil pass0 (pa_cons (pv 0) (pa_cons (pv 3) pa_nil)))) pa_nil))))) pa_nil))) pa_nil))))))
        pss_nil)
      (pss_cons (ps_set (i := 8) sc_deed.nd rfl (Or.inr rfl) (pe_call GOf hr_GOf (by rfl) (T.gd "_law_of" (mem_at 42 rfl)) GOfF.kp GOfB .nil pass0 (pa_cons (pv 0) (pa_cons (pv 4) pa_nil))))
      (pss_cons (ps_set (i := 9) sc_deed.nd rfl (Or.inl rfl) (pe_callB (call_min2 rfl) (by rfl) (T.fr "min" (mem_at 11 rfl)) (by decide +kernel) (pa_cons (pe_callTy call_int1 (by rfl) (T.fr "int" (mem_at 6 rfl)) (by decide +kernel) (pa_cons (pe_dget (hu_of hr) (pv 2) (pv 8) (fun _ _ => rfl)) pa_nil)) (pa_cons pe_int pa_nil))))
      (pss_cons (ps_set (i := 10) sc_deed.nd rfl (Or.inl rfl) (pe_op op_add pe_int (pe_call GTk hr_GTk (by rfl) (T.gd "_law_take" (mem_at 41 rfl)) GTkF.kp GTkB .nil pass0 (pa_cons (pv 0) (pa_cons (pe_ifExp (pt_cmpR op_gt (pe_call GTk hr_GTk (by rfl) (T.gd "_law_take" (mem_at 41 rfl)) GTkF.kp GTkB .nil pass0 (pa_cons (pv 0) (pa_cons pe_int pa_nil))) pe_int (nomark _)) (pe_callB (call_max2 rfl) (by rfl) (T.fr "max" (mem_at 10 rfl)) (by decide +kernel) (pa_cons pe_int (pa_cons (pe_op op_sub (pv 9) pe_int) pa_nil))) (pv 9)) pa_nil)))))
      (pss_cons (ps_if (pt_cmpR op_eq (pv 7) pe_str (nomark _))
        (pss_one (ps_ret (pe_tup (pa_cons (pv 7) (pa_cons (pv 8) (pa_cons (pv 10) pa_nil))))))
        pss_nil)
      (pss_one (ps_ret (pe_tup (pa_cons (pv 7) (pa_cons (pv 8) (pa_cons (pe_call GOf hr_GOf (by rfl) (T.gd "_law_of" (mem_at 42 rfl)) GOfF.kp GOfB .nil pass0 (pa_cons (pv 0) (pa_cons (pe_lc (own := [("far", 12)]) (g := gName 12) (tt := tTest (tOp rNe (tVar 12) (tVar 8))) rfl sc_deed.nd (pi_list (pe_dget (hu_of hr) (pv 1) pe_str (fun _ _ => rfl))) (blkOk_by (N := ["pot", "own", "level", "great", "full", "draws", "words", "word", "name", "top", "size", "deed", "far"]) (sc := defScope s_deed) (by decide +kernel)) (fun _ _ _ _ _ => pg_name (i := 12) sc_deed.nd rfl (Or.inl rfl)) (fun _ _ _ _ _ => (pts_one (pt_cmpR op_ne (pv 12) (pv 8) (nomark _)))) (fun _ _ _ _ _ => (pv 12))) pa_nil))) (pa_cons (pv 10) pa_nil))))))))))))))))), ?_⟩
    obtain ⟨nd, vne, v6, vok⟩ := hV
    have hp0 := pot_some hP
    have bs : Same (But H p) H := but_same
    obtain ⟨a, b, c, us, ws0, hOd, hA, hB, hS, hC, hW⟩ := hO
    obtain ⟨m1, m2, m3, m4, m5⟩ := hM
    have lvn : (sV vn).length = vn.length := List.length_map ..
    refine i_set (i_lc ⟨_, rfl, o, _, rfl, get_dk (k := .inr "vessels") (bs _ _ hOd) (own_a a b c), a, rfl, ⟨_, bs.seq hA⟩, fun Dl nD => ?_⟩)
    refine lr_filter (walk_list (K := K) (a := a) (xs := sV vn)) vn (fun x => decide (0 < (levAt vn st).getD (vn.idxOf x) 0)) V.str lvn.symm (by rw [lvn]; omega) nD (fun H2 s => s.seq (bs.seq hA)) (fun i x H2 H3 w hw s2 hy Q' P' k1 k2 => ?_) (fun H1 e1 s1 => ?_)
    · obtain ⟨rfl, hv⟩ := hy
      cases Option.some.inj ((sV_at hw).symm.trans hv)
      refine ⟨rfl, i_test (i_op (i_dget (i_var rfl (i_var rfl ⟨d, _, rfl, get_dk (k := .inr w) (s2 _ _ (bs _ _ hL)) (kv_level (List.mem_of_getElem? hw)), i_c ⟨_, _, rfl, rfl, ⟨_, rfl, ite2 (fun e => ?_) (fun e => ?_)⟩⟩⟩))))⟩
      · exact i_var rfl (k1 e _ (Same.refl _))
      · exact k2 (by cases z : decide (0 < (levAt vn st).getD (vn.idxOf w) 0) with
          | true => exact absurd z e
          | false => rfl) _ (Same.refl _)
    have hfl : ∀ x ∈ vn.filter (fun x => decide (0 < (levAt vn st).getD (vn.idxOf x) 0)), x ∈ vn ∧ 0 < (levAt vn st).getD (vn.idxOf x) 0 := fun x hx => by
      obtain ⟨h1, h2⟩ := List.mem_filter.mp hx
      exact ⟨h1, of_decide_eq_true h2⟩
    have lfl : (vn.filter (fun x => decide (0 < (levAt vn st).getD (vn.idxOf x) 0))).length ≤ 6 := Nat.le_trans (List.length_filter_le _ _) v6
    change H1 Dl = some (.lst (sV (vn.filter (fun x => decide (0 < (levAt vn st).getD (vn.idxOf x) 0))))) at e1
    generalize vn.filter (fun x => decide (0 < (levAt vn st).getD (vn.idxOf x) 0)) = fl at e1 hfl lfl
    have okf : ∀ w ∈ fl, PyData.strOk w = true := fun w hw => (vok w (hfl w hw).1).2.1
    have t1 : Same (But H p) H1 := bs.trans s1
    refine i_set (i_cb (i_cons (i_lc ⟨_, rfl, o, _, rfl, get_dk (k := .inr "steps") (t1 _ _ hOd) (own_b a b c), b, rfl, ⟨_, t1.seq hB⟩, fun Dm nDm => ?_⟩)))
    refine lr_it (walk_list (K := K) (a := b) (xs := us)) (fun i H7 => Same H1 H7 ∧ H7 Dm = some (.lst (List.replicate (drawnTo st i).length (V.int 1)))) ⟨same_new nDm, upd_same⟩ (fun i H7 _ hP => (t1.trans hP.1).seq hB) (fun i v H7 H8 hi hP hy => ?_) (fun H7 hP7 => ?_)
    · obtain ⟨s7, e7⟩ := hP
      obtain ⟨rfl, hv⟩ := hy
      have hi2 : i < st.length := by rw [← hS.1]; exact hi
      have hst2 := List.getElem?_eq_getElem hi2
      obtain ⟨r, hr1, hr2⟩ := (hS.same (t1.trans s7)).2 i _ hst2
      have hv2 : v = .ref r := Option.some.inj ((show us[i]? = some v from hv).symm.trans hr1)
      subst hv2
      have hws := (step_cases (m1 _ (List.getElem_mem hi2))).2
      obtain ⟨k2, r2, ek⟩ : ∃ k2 r2, (st[i]).1 = k2 :: r2 := by
        rcases hws with ⟨y, _, e | e | e⟩ | ⟨y, u, _, _, _, e⟩ <;> exact ⟨_, _, e⟩
      have hst3 : st[i]? = some (k2 :: r2, (st[i]).2) := by rw [hst2, ← ek]
      rw [ek] at hr2
      have eD := isDraw_at hst3
      have dl := drawnTo_len st i
      refine ⟨rfl, i_test (i_op ⟨_, rfl, i_c (r_ixT hr2 (at_0 _ _) (i_c (r_eqS ⟨_, rfl, ite2 (fun e => ?_) (fun e => ?_)⟩)))⟩)⟩
      · refine ⟨_, e7, ?_, same_mut s7 nDm, ?_⟩
        · rw [List.length_replicate]
          exact Nat.lt_of_le_of_lt (Nat.le_trans dl (by omega : i ≤ 1000)) (by decide)
        · rw [upd_same, drawn_len, eD, if_pos e, List.replicate_succ']
      · refine ⟨s7, ?_⟩
        rw [e7, drawn_len, eD, if_neg e]
        rfl
    obtain ⟨s7, e7⟩ := hP7
    rw [hS.1] at e7
    have t7 := t1.trans s7
    refine i_nil ⟨Dm, _, rfl, .inl (SqL.of e7), ?_⟩
    rw [List.length_replicate]
    have e17 := s7 _ _ e1
    refine i_set (i_more (K := K) (w := "pour") (L := ["fill", "dye"]) (fl := fl) (C := 1 < vn.length) rfl (SqL.of e17) okf (by decide) (fun Q' q' => ?_) (fun H8 s8 Qb qb => ?_) (fun pw H9 L1 s9 e9 mem1 ll1 lu1 => ?_))
    · exact i_lst (i_cons (i_c (i_cons (i_c (i_nil ⟨by show 2 ≤ sizeLine; decide, fun p1 n1 => q' p1 _ (same_new n1) upd_same⟩)))))
    · refine i_test (i_op (i_cb (i_cons ⟨_, rfl, o, _, rfl, get_dk (k := .inr "vessels") ((t7.trans s8) _ _ hOd) (own_a a b c), i_nil ⟨a, sV vn, rfl, .inl ((t7.trans s8).seq hA), i_c ⟨_, _, rfl, rfl, ⟨_, rfl, qb _ _ (Same.refl _) fun z => ?_⟩⟩⟩⟩)))
      have z2 := of_decide_eq_true z
      rw [lvn] at z2
      omega
    have t9 := t7.trans s9
    refine i_set (i_more (K := K) (w := "draw") (L := L1) (fl := fl) (C := (vn.length : Int) + ((drawnTo st st.length).length : Int) < 9) rfl (SqL.of (s9 _ _ e17)) okf (by have : (["fill", "dye"] : List Str).length = 2 := rfl; omega) (fun Q' q' => ?_) (fun H8 s8 Qb qb => ?_) (fun px H10 L2 s10 e10 mem2 ll2 lu2 => ?_))
    · exact i_var rfl (q' _ _ (Same.refl _) e9)
    · refine i_test (i_op (i_op (i_cb (i_cons ⟨_, rfl, o, _, rfl, get_dk (k := .inr "vessels") ((t9.trans s8) _ _ hOd) (own_a a b c), i_nil ⟨a, sV vn, rfl, .inl ((t9.trans s8).seq hA), i_var rfl ⟨_, _, rfl, rfl, i_c ⟨_, _, rfl, rfl, ⟨_, rfl, qb _ _ (Same.refl _) fun z => ?_⟩⟩⟩⟩⟩))))
      have z2 := of_decide_eq_true z
      rw [lvn] at z2
      exact z2
    have t10 := t9.trans s10
    have u10 : Same H H10 := ((s1.trans s7).trans s9).trans s10
    have hP10 := hP.sameH u10
    have l2 : 2 ≤ L2.length := by
      have : (["fill", "dye"] : List Str).length = 2 := rfl
      omega
    have l2u : L2.length ≤ 10 := by
      have : (["fill", "dye"] : List Str).length = 2 := rfl
      omega
    have npx := pot_neS hP10 e10 (by omega)
    refine i_set (i_call (i_cons (i_var rfl (i_cons (i_var rfl (i_nil ⟨p, px, sV L2, n, rfl, SqL.of ((del_ne npx).trans e10), by rw [sV_len]; omega, by rw [sV_len]; omega, hP10, by omega, fun H11 v s11 hP11 hv => ?_⟩))))))
    obtain ⟨w, hw, rfl⟩ := List.mem_map.mp hv
    have b11 : Same (But H p) (But H11 p) := (same_but u10).trans s11
    have t11 : Same (But H p) H11 := b11.trans but_same
    have hcw : (w = ("fill" : Str) ∨ w = ("dye" : Str)) ∨ (w = ("pour" : Str) ∧ fl ≠ [] ∧ 1 < vn.length) ∨ (w = ("draw" : Str) ∧ fl ≠ [] ∧ (vn.length : Int) + ((drawnTo st st.length).length : Int) < 9) := by
      rcases mem2 w hw with hw | hw
      · rcases mem1 w hw with hw | hw
        · exact .inl (by simpa using hw)
        · exact .inr (.inl hw)
      · exact .inr (.inr hw)
    refine i_if0 (i_test (i_op (i_var rfl (i_tup2 fun pt npt => r_in (.inr (SqT.of upd_same)) rfl rfl (inV_sV w ["fill", "dye"]) ⟨_, rfl, ?_⟩))))
    have s12 := same_new (o := .tup [.str "fill", .str "dye"]) npt
    have hP12 := hP11.new npt (o := .tup [.str "fill", .str "dye"])
    change ite _ _ _
    generalize upd H11 pt (.tup [.str "fill", .str "dye"]) = H12 at s12 hP12
    have b12 := b11.trans (same_but s12)
    have t12 : Same (But H p) H12 := b12.trans but_same
    by_cases m : w ∈ (["fill", "dye"] : List Str)
    · rw [decide_eq_true m]
      have hk : w = ("fill" : Str) ∨ w = ("dye" : Str) := by simpa using m
      refine iteT (i_ret (i_tup (i_cons (i_var rfl (i_cons (i_call (i_cons (i_var rfl (i_cons ⟨_, rfl, o, _, rfl, get_dk (k := .inr "vessels") (t12 _ _ hOd) (own_a a b c), ?_⟩)))))))))
      refine i_nil ⟨p, a, sV vn, n + 1, rfl, b12.seq hA, by rw [lvn]; exact List.length_pos_iff.mpr vne, by rw [lvn]; omega, hP12, by omega, fun H13 v s13 hP13 hv => ?_⟩
      obtain ⟨x, hx, rfl⟩ := List.mem_map.mp hv
      have b13 := b12.trans s13
      refine i_cons (i_call (i_cons (i_var rfl (i_cons (i_lst (i_cons (i_c (i_cons (i_c (i_cons (i_c (i_cons (i_op (i_c (i_call (i_cons (i_var rfl (i_cons (i_var rfl (i_nil ⟨p, g, n + 1 + 1, rfl, by omega, by omega, hP13, by omega, fun H14 r s14 hP14 r0 r1 => ⟨_, _, rfl, rfl, i_nil ⟨by show 4 ≤ sizeLine; decide, fun pl npl => ?_⟩⟩⟩))))))))))))))))))))
      have s15 := same_new (o := .lst [.int 1, .int 2, .int 3, .int (1 + r)]) npl
      have b15 := (b13.trans s14).trans (same_but s15)
      have npp : pl ≠ p := fun z => pot_some hP14 (z ▸ npl)
      refine i_nil ⟨p, pl, [.int 1, .int 2, .int 3, .int (1 + r)], n + 1 + 1 + 1, rfl, SqL.of ((del_ne npp).trans upd_same), by show 0 < 4; decide, by show 4 ≤ 1000; decide, hP14.sameH s15, by omega, fun H16 v s16 hP16 hv => ?_⟩
      obtain ⟨z, rfl, z1, z2⟩ : ∃ z : Int, v = .int z ∧ 1 ≤ z ∧ z ≤ 99 := by
        simp only [List.mem_cons, List.not_mem_nil, or_false] at hv
        rcases hv with rfl | rfl | rfl | rfl
        · exact ⟨1, rfl, by omega, by omega⟩
        · exact ⟨2, rfl, by omega, by omega⟩
        · exact ⟨3, rfl, by omega, by omega⟩
        · exact ⟨1 + r, rfl, by omega, by omega⟩
      have b16 := b15.trans s16
      refine i_nil ⟨by show 3 ≤ sizeLine; decide, fun pT npT => ?_⟩
      have s17 := same_new (o := .tup [.str w, .str x, .int z]) npT
      have nT : pT ≠ p := fun z => pot_some hP16 (z ▸ npT)
      exact q _ pT [w, x] z (b16.trans (same_but s17)) ((hP16.sameH s17).up (by omega) (by omega)) (SqT.of ((del_ne nT).trans upd_same)) (deed_two hk hx h14 z1 z2)
    · rw [decide_eq_false m]
      have hcw2 := hcw.resolve_left (fun z => m (by simpa using z))
      have fne : fl ≠ [] := by
        rcases hcw2 with h | h
        · exact h.2.1
        · exact h.2.1
      have npD : Dl ≠ p := pot_neS (hP.sameH s1) e1 (List.length_pos_iff.mpr fne)
      have e12 : (But H12 p) Dl = some (.lst (sV fl)) := (same_but s12) _ _ (s11 _ _ ((del_ne npD).trans (s10 _ _ (s9 _ _ e17))))
      refine iteF (i_set (i_call (i_cons (i_var rfl (i_cons (i_var rfl (i_nil ⟨p, Dl, sV fl, n + 1, rfl, SqL.of e12, by rw [sV_len]; exact List.length_pos_iff.mpr fne, by rw [sV_len]; omega, hP12, by omega, fun H13 v s13 hP13 hv => ?_⟩)))))))
      obtain ⟨x, hx, rfl⟩ := List.mem_map.mp hv
      obtain ⟨hxv, hx0⟩ := hfl x hx
      have b13 := b12.trans s13
      have t13 : Same (But H p) H13 := b13.trans but_same
      refine i_set (i_cb (i_cons (i_cb (i_cons (i_dget (i_var rfl (i_var rfl ⟨d, _, rfl, get_dk (k := .inr x) (t13 _ _ hL) (kv_level hxv), i_nil (.inl ⟨_, rfl, i_cons (i_c (i_nil ⟨_, _, rfl, ?_⟩))⟩)⟩)))))))
      generalize hlv : (levAt vn st).getD (vn.idxOf x) 0 = lv at hx0 ⊢
      obtain ⟨tp, etp, tp1, tp2, tp3⟩ : ∃ tp : Int, (if (99 : Int) < lv then (99 : Int) else lv) = tp ∧ 1 ≤ tp ∧ tp ≤ 99 ∧ tp ≤ lv := by
        refine ⟨_, rfl, ?_⟩
        split <;> omega
      rw [etp]
      refine i_set (cut_te (R := fun v H15 => ∃ sz : Int, v = .int sz ∧ Same (But H p) (But H15 p) ∧ Pot H15 p (n + 1 + 1 + 1 + 1) ∧ 1 ≤ sz ∧ sz ≤ tp) (fun Q' q' => ?_) (fun v H15 hR => ?_))
      · refine i_op (i_c (i_call (i_cons (i_var rfl (i_cons (i_ifx (i_test (i_op (i_call (i_cons (i_var rfl (i_cons (i_c (i_nil ⟨p, 6, n + 1 + 1, rfl, by decide, by decide, hP13, by omega, fun H14 r s14 hP14 r0 r1 => i_c ⟨_, _, rfl, rfl, ⟨_, rfl, ?_⟩⟩⟩))))))))))))))
        have b14 := b13.trans s14
        have fin : ∀ up : Int, 1 ≤ up → up ≤ tp → spTake [.ref p, .int up] H14 (fun y H2 => (rI0 fun i j => .int (i + j)) (.int 1) y H2 Q') E0 := fun up u1 u2 =>
          ⟨p, up, n + 1 + 1 + 1, rfl, by omega, by omega, hP14, by omega, fun H15 r2 s15 hP15 q0 q1 => ⟨1, r2, rfl, rfl, q' _ H15 ⟨1 + r2, rfl, b14.trans s15, hP15, by omega, by omega⟩⟩⟩
        refine ite2 (fun e => ?_) (fun e => ?_)
        · refine i_cb (i_cons (i_c (i_cons (i_op (i_var rfl (i_c ⟨_, _, rfl, rfl, i_nil ⟨_, _, rfl, i_nil (fin _ ?_ ?_)⟩⟩))))))
          · split <;> omega
          · split <;> omega
        · exact i_var rfl (i_nil (fin _ (by omega) (by omega)))
      obtain ⟨sz, rfl, b15, hP15, sz1, sz2⟩ := hR
      have t15 : Same (But H p) H15 := b15.trans but_same
      refine i_if0 (i_test (i_op (i_var rfl (i_c (r_eqS ⟨_, rfl, ?_⟩)))))
      rcases hcw2 with ⟨rfl, _, hv1⟩ | ⟨rfl, _, h9⟩
      · rw [decide_eq_false (show ¬ ("pour" : Str) = ("draw" : Str) by decide +kernel)]
        refine iteF (i_ret (i_tup (i_cons (i_var rfl (i_cons (i_var rfl (i_cons (i_call (i_cons (i_var rfl (i_cons (i_lc ⟨_, rfl, o, _, rfl, get_dk (k := .inr "vessels") (t15 _ _ hOd) (own_a a b c), a, rfl, ⟨_, t15.seq hA⟩, fun Df nDf => ?_⟩))))))))))))
        refine lr_filter (walk_list (K := K) (a := a) (xs := sV vn)) vn (fun y => decide (y ≠ x)) V.str lvn.symm (by rw [lvn]; omega) nDf (fun H2 s => s.seq (t15.seq hA)) (fun i y H2 H3 w hw s2 hy Q' P' k1 k2 => ?_) (fun H16 e16 s16 => ?_)
        · obtain ⟨rfl, hv⟩ := hy
          cases Option.some.inj ((sV_at hw).symm.trans hv)
          refine ⟨rfl, i_test (i_op (i_var rfl (i_var rfl (r_neS ⟨_, rfl, ite2 (fun e => ?_) (fun e => ?_)⟩))))⟩
          · exact i_var rfl (k1 e _ (Same.refl _))
          · exact k2 (by cases z : decide (w ≠ x) with
              | true => exact absurd z e
              | false => rfl) _ (Same.refl _)
        change H16 Df = some (.lst (sV (vn.filter fun y => decide (y ≠ x)))) at e16
        have lo := other_of (x := x) nd hv1
        have lo2 : (vn.filter fun y => decide (y ≠ x)).length ≤ 6 := Nat.le_trans (List.length_filter_le _ _) v6
        have hP16 := hP15.sameH s16
        have npf := pot_neS hP16 e16 lo
        refine i_nil ⟨p, Df, _, n + 1 + 1 + 1 + 1, rfl, SqL.of ((del_ne npf).trans e16), by rw [sV_len]; exact lo, by rw [sV_len]; omega, hP16, by omega, fun H17 v s17 hP17 hv => ?_⟩
        obtain ⟨y, hy, rfl⟩ := List.mem_map.mp hv
        obtain ⟨hy1, hy2⟩ := List.mem_filter.mp hy
        have b17 := (b15.trans (same_but s16)).trans s17
        refine i_cons (i_var rfl (i_nil ⟨by show 4 ≤ sizeLine; decide, fun pT npT => ?_⟩))
        have s18 := same_new (o := .tup [.str "pour", .str x, .str y, .int sz]) npT
        have nT : pT ≠ p := fun z => pot_some hP17 (z ▸ npT)
        exact q _ pT ["pour", x, y] sz (b17.trans (same_but s18)) ((hP17.sameH s18).up (by omega) (by omega)) (SqT.of ((del_ne nT).trans upd_same)) (deed_pour hxv hy1 (Ne.symm (of_decide_eq_true hy2)) h14 (by omega) (by omega) (by rw [hlv]; omega))
      · refine iteT (i_ret (i_tup (i_cons (i_var rfl (i_cons (i_var rfl (i_cons (i_var rfl (i_nil ⟨by show 3 ≤ sizeLine; decide, fun pT npT => ?_⟩)))))))))
        have s18 := same_new (o := .tup [.str "draw", .str x, .int sz]) npT
        have nT : pT ≠ p := fun z => pot_some hP15 (z ▸ npT)
        exact q _ pT ["draw", x] sz (b15.trans (same_but s18)) ((hP15.sameH s18).up (by omega) (by omega)) (SqT.of ((del_ne nT).trans upd_same)) (deed_draw hxv h14 h9 (by omega) (by omega) (by rw [hlv]; omega))
end
end K10
set_option Elab.async false
set_option linter.all false
set_option maxRecDepth 100000
set_option maxHeartbeats 4000000
namespace K10
open PySem PySem.Spec PyProof.Rows L2 Er
section
variable {P : Program} {w : World} {K : PySem.W.Frag} {mg : Str → Option Value} {base : Heap} {f : Addr} {fd : FuncData}
theorem sc_own : FnScope ["pot", "tops", "few", "upper", "great", "pool", "own", "deeds", "name", "sizes", "both", "lap"] ["pot", "tops", "few", "upper", "great"] (defScope s_own) := ⟨rfl, rfl, rfl, by decide +kernel, rfl, by decide +kernel, by decide +kernel⟩
theorem ok_own (T : Tx K mg) (F : FunD K "_law_own" "_law_own" (defArgs s_own) (defBody s_own) (defScope s_own) [] [] f fd) {fdGTk : FuncData} (GTk : FnOk P w K mg base CX0 1 (He.ga K "_law_take") fdGTk ["pot", "upto"] (spTake)) (GTkF : FnT K "_law_take" s_take fdGTk) (GTkB : Binds K fdGTk ["pot", "upto"] [])
    {fdGOf : FuncData} (GOf : FnOk P w K mg base CX0 2 (He.ga K "_law_of") fdGOf ["pot", "some"] (spOf K)) (GOfF : FnT K "_law_of" s_of fdGOf) (GOfB : Binds K fdGOf ["pot", "some"] [])
    {fdGSo : FuncData} (GSo : FnOk P w K mg base CX0 2 (He.ga K "_law_some") fdGSo ["pot", "pool", "width"] (spSome K)) (GSoF : FnT K "_law_some" s_some fdGSo) (GSoB : Binds K fdGSo ["pot", "pool", "width"] [])
    {fdGDe : FuncData} (GDe : FnOk P w K mg base CX0 3 (He.ga K "_law_deed") fdGDe ["pot", "own", "level", "great"] (spDeedG K)) (GDeF : FnT K "_law_deed" s_deed fdGDe) (GDeB : Binds K fdGDe ["pot", "own", "level", "great"] [])
    {fdGLe : FuncData} (GLe : FnOk P w K mg base CX0 1 (He.ga K "_law_levels") fdGLe ["own"] (spLevels K)) (GLeF : FnT K "_law_levels" s_levels fdGLe) (GLeB : Binds K fdGLe ["own"] []) : FnOk P w K mg base CX0 4 f fd ["pot", "tops", "few", "upper", "great"] (spOwnG K) := by
  refine F.ok sc_own (fun vs H Q E h => ?_) (fun cdv A outer s H vs Q E hr h => ?_)
  · obtain ⟨p, t, fw, u, g, n, rfl, _⟩ := h
    rfl
  · obtain ⟨p, t, fw, u, g, n, rfl, t1, t2, f1, f2, u2, g1, g2, hP, hn, q⟩ := h
    have hr_GTk := hr.mono (by decide : 1 ≤ 3)
    have hr_GOf := hr.mono (by decide : 2 ≤ 3)
    have hr_GSo := hr.mono (by decide : 2 ≤ 3)
    have hr_GDe := hr
    have hr_GLe := hr.mono (by decide : 1 ≤ 3)
    refine ⟨_, PSs.nox (pss_cons (ps_set (i := 5) sc_own.nd rfl (Or.inl rfl) (pe_lst (pa_cons pe_str (pa_cons pe_str (pa_cons pe_str (pa_cons pe_str (pa_cons pe_str (pa_cons pe_str (pa_cons pe_str (pa_cons pe_str (pa_cons pe_str (pa_cons pe_str (pa_cons pe_str (pa_cons pe_str pa_nil))))))))))))))
      (pss_cons (ps_set (i := 6) sc_own.nd rfl (Or.inl rfl) (pe_disp (pps_cons pe_str (pe_call GSo hr_GSo (by rfl) (T.gd "_law_some" (mem_at 43 rfl)) GSoF.kp GSoB .nil pass0 (pa_cons (pv 0) (pa_cons (pv 5) (pa_cons (pe_op op_add pe_int (pe_call GTk hr_GTk (by rfl) (T.gd "_law_take" (mem_at 41 rfl)) GTkF.kp GTkB .nil pass0 (pa_cons (pv 0) (pa_cons (pv 1) pa_nil)))) pa_nil)))) (pps_cons pe_str (pe_lst pa_nil) (pps_cons pe_str (pe_lst pa_nil) pps_nil))) (by rfl) (by rfl) (fun z => by cases z) (by decide)))
      (pss_cons (ps_set (i := 7) sc_own.nd rfl (Or.inl rfl) (pe_op op_add (pv 2) (pe_callB (call_max2 rfl) (by rfl) (T.fr "max" (mem_at 10 rfl)) (by decide +kernel) (pa_cons (pe_call GTk hr_GTk (by rfl) (T.gd "_law_take" (mem_at 41 rfl)) GTkF.kp GTkB .nil pass0 (pa_cons (pv 0) (pa_cons (pe_op op_add (pe_op op_sub (pv 3) (pv 2)) pe_int) pa_nil))) (pa_cons (pe_call GTk hr_GTk (by rfl) (T.gd "_law_take" (mem_at 41 rfl)) GTkF.kp GTkB .nil pass0 (pa_cons (pv 0) (pa_cons (pe_op op_add (pe_op op_sub (pv 3) (pv 2)) pe_int) pa_nil))) pa_nil)))))
      (pss_cons (ps_if (PW.pt (pw_and (pt_cmpR op_gt (pv 3) pe_int (nomark _)) (pw_and1 (pt_cmpR op_gt (pe_call GTk hr_GTk (by rfl) (T.gd "_law_take" (mem_at 41 rfl)) GTkF.kp GTkB .nil pass0 (pa_cons (pv 0) (pa_cons pe_int pa_nil))) pe_int (nomark _)))))
        (pss_cons (ps_set (i := 7) sc_own.nd rfl (Or.inl rfl) (pe_callB (call_max2 rfl) (by rfl) (T.fr "max" (mem_at 10 rfl)) (by decide +kernel) (pa_cons (pe_callTy call_int1 (by rfl) (T.fr "int" (mem_at 6 rfl)) (by decide +kernel) (pa_cons (pv 7) pa_nil)) (pa_cons pe_int pa_nil))))
        (pss_cons (ps_par (i := 8) (j := 9) (by rfl) sc_own.nd rfl rfl (by decide) rfl rfl (pa_cons (pe_call GOf hr_GOf (by rfl) (T.gd "_law_of" (mem_at 42 rfl)) GOfF.kp GOfB .nil pass0 (pa_cons (pv 0) (pa_cons (pe_dget (hu_of hr) (pv 6) pe_str (fun _ _ => rfl)) pa_nil))) (pa_cons (pe_lc (own := [("lap", 11)]) (g := gName 11) (tt := tYes) rfl sc_own.nd (pi_range1 (by rfl) (T.fr "range" (mem_at 12 rfl)) (pa_cons pe_int pa_nil)) (blkOk_by (N := ["pot", "tops", "few", "upper", "great", "pool", "own", "deeds", "name", "sizes", "both", "lap"]) (sc := defScope s_own) (by decide +kernel)) (fun _ _ _ _ _ => pg_name (i := 11) sc_own.nd rfl (Or.inl rfl)) (fun _ _ _ _ _ => pts_nil) (fun _ _ _ _ _ => (pe_callB (call_min2 rfl) (by rfl) (T.fr "min" (mem_at 11 rfl)) (by decide +kernel) (pa_cons pe_int (pa_cons (pe_op op_add pe_int (pe_call GTk hr_GTk (by rfl) (T.gd "_law_take" (mem_at 41 rfl)) GTkF.kp GTkB .nil pass0 (pa_cons (pv 0) (pa_cons (pv 4) pa_nil)))) pa_nil))))) pa_nil)) (by rfl))
        (pss_cons (ps_set (i := 10) sc_own.nd rfl (Or.inl rfl) (pe_lst (pa_cons (pe_tup (pa_cons pe_str (pa_cons (pv 8) (pa_cons (pe_ix ix_list (pv 9) pe_int (fun _ _ => rfl)) pa_nil)))) (pa_cons (pe_tup (pa_cons pe_str (pa_cons (pv 8) (pa_cons (pe_ix ix_list (pv 9) pe_int (fun _ _ => rfl)) pa_nil)))) pa_nil))))
        (pss_one (ps_dput (hu_of hr) (pv 6) pe_str (pe_ifExp (pt_cmpR op_eq (pe_call GTk hr_GTk (by rfl) (T.gd "_law_take" (mem_at 41 rfl)) GTkF.kp GTkB .nil pass0 (pa_cons (pv 0) (pa_cons pe_int pa_nil))) pe_int (nomark _)) (pv 10) (pe_revL (pv 10))) (by rfl))))))
        pss_nil)
      (pss_cons (ps_for PassesOwn.never rfl (pi_range1 (by rfl) (T.fr "range" (mem_at 12 rfl)) (pa_cons (pe_op op_sub (pv 7) (pe_callB call_len_seq (by rfl) (T.fr "len" (mem_at 8 rfl)) PySem.boot_len (pa_cons (pe_dget (hu_of hr) (pv 6) pe_str (fun _ _ => rfl)) pa_nil))) pa_nil)) (pg_name (i := 11) sc_own.nd rfl (Or.inl rfl))
        (pss_one (ps_expr (pe_bm PySem.F.plainAttrs_list PySem.F.slot_list_append PySem.F.type_list_append mt_append (pe_dget (hu_of hr) (pv 6) pe_str (fun _ _ => rfl)) (pa_cons (pe_call GDe hr_GDe (by rfl) (T.gd "_law_deed" (mem_at 46 rfl)) GDeF.kp GDeB .nil pass0 (pa_cons (pv 0) (pa_cons (pv 6) (pa_cons (pe_ix ix_list (pe_call GLe hr_GLe (by rfl) (T.gd "_law_levels" (mem_at 45 rfl)) GLeF.kp GLeB .nil pass0 (pa_cons (pv 6) pa_nil)) (pe_un un_neg pe_int) (fun _ _ => rfl)) (pa_cons (pv 4) pa_nil))))) pa_nil)))))
      (pss_one (ps_ret (pv 6)))))))), ?_⟩
    have hp0 := pot_some hP
    refine i_set (i_lst (i_cons (i_c (i_cons (i_c (i_cons (i_c (i_cons (i_c (i_cons (i_c (i_cons (i_c (i_cons (i_c (i_cons (i_c (i_cons (i_c (i_cons (i_c (i_cons (i_c (i_cons (i_c (i_nil ⟨by show 12 ≤ sizeLine; decide, fun pl npl => ?_⟩))))))))))))))))))))))))))
    change tSeq _ _ _ _ (upd H pl (.lst (sV drawPool)))
    have s1 : Same H (upd H pl (.lst (sV drawPool))) := same_new npl
    have npp : pl ≠ p := fun z => hp0 (z ▸ npl)
    have e1 : (But (upd H pl (.lst (sV drawPool))) p) pl = some (.lst (sV drawPool)) := (del_ne npp).trans upd_same
    generalize upd H pl (.lst (sV drawPool)) = H1 at s1 e1 ⊢
    have hP1 := hP.sameH s1
    refine i_set (fun po npo => ?_)
    have s2 := same_new (o := .dK []) npo
    have npop : po ≠ p := fun z => pot_some hP1 (z ▸ npo)
    have ePo : (But (upd H1 po (.dK [])) p) po = some (.dK []) := (del_ne npop).trans upd_same
    have e2 := same_but s2 _ _ e1 (p := p)
    have npo0 : H po = none := none_back s1 npo
    have hP2 := hP1.sameH s2
    have b2 := same_but (s1.trans s2) (p := p)
    generalize upd H1 po (.dK []) = H2 at s2 ePo e2 hP2 b2 ⊢
    refine i_c (i_call (i_cons (i_var rfl (i_cons (i_var rfl (i_cons (i_op (i_c (i_call (i_cons (i_var rfl (i_cons (i_var rfl (i_nil ⟨p, t, n, rfl, by omega, by omega, hP2, by omega, fun H3 r s3 hP3 r0 r1 => ⟨_, _, rfl, rfl, ?_⟩⟩))))))))))))))
    obtain ⟨m, rfl⟩ : ∃ m : Nat, r = m := ⟨r.toNat, by omega⟩
    refine i_nil ⟨p, pl, 1 + m, drawPool, n + 1, by rw [show ((1 + m : Nat) : Int) = 1 + (m : Int) by omega]; rfl, SqL.of (s3 _ _ e2), by decide, by have : drawPool.length = 12 := rfl; omega, draw_nd, hP3, by omega, fun H4 pn vn s4 hP4 npn e4 l4 nd mem => ?_⟩
    have b4 := (b2.trans s3).trans s4
    have ePo4 := s4 _ _ (s3 _ _ ePo)
    have vne : vn ≠ [] := fun z => by
      rw [z] at l4
      simp at l4
      omega
    have hV : NamesOk vn := ⟨nd, vne, by omega, fun x hx => draw_ok x (mem x hx)⟩
    have npnp := pot_neS hP4 e4 (List.length_pos_iff.mpr vne)
    have ePn4 : (But H4 p) pn = some (.lst (sV vn)) := (del_ne npnp).trans e4
    refine i_c (i_lst (i_nil ⟨by show 0 ≤ sizeLine; decide, fun pb npb => i_c (i_lst (i_nil ⟨by show 0 ≤ sizeLine; decide, fun pc npc => ⟨?_, ownKV pn pb pc, rfl, by show 3 ≤ 15; decide, ?_⟩⟩))⟩))
    · exact same_new npc _ _ (same_new npb _ _ (but_same _ _ ePo4))
    rw [merge_own]
    have s5 := (same_new (o := .lst []) npb).trans (same_new (o := .lst []) npc)
    have npbp : pb ≠ p := fun z => pot_some hP4 (z ▸ npb)
    have hP4b := hP4.new npb (o := .lst [])
    have npcp : pc ≠ p := fun z => pot_some hP4b (z ▸ npc)
    have dbc : pb ≠ pc := fun z => by
      rw [← z, upd_same] at npc
      cases npc
    have hpb : (But (upd (upd H4 pb (.lst [])) pc (.lst [])) p) pb = some (.lst []) := (del_ne npbp).trans ((upd_ne dbc).trans upd_same)
    have hpc : (But (upd (upd H4 pb (.lst [])) pc (.lst [])) p) pc = some (.lst []) := (del_ne npcp).trans upd_same
    have ePo5 := same_but s5 _ _ ePo4 (p := p)
    have ePn5 := same_but s5 _ _ ePn4 (p := p)
    have b5 := b4.trans (same_but s5)
    have hP5 := hP4.sameH s5
    have npb0 : H pb = none := keep_none b4 (pot_some hP4) npb
    generalize upd (upd H4 pb (.lst [])) pc (.lst []) = H5 at s5 hpb hpc ePo5 ePn5 b5 hP5 ⊢
    have off : ∀ x o, x ≠ po → But H5 p x = some o → But (upd H5 po (.dK (ownKV pn pb pc))) p x = some o := fun x o ne e => by
      rw [but_upd2 npop, upd_ne ne]
      exact e
    have os : OS K H (upd H5 po (.dK (ownKV pn pb pc))) p po pn pb pc vn [] [] := by
      refine ⟨dbc, npb0, but_mut npo0 hp0 b5, (del_ne npop).trans upd_same, off _ _ (fun z => ?_) ePn5, off _ _ (fun z => ?_) hpb, StepsAt.nil, off _ _ (fun z => ?_) hpc, Grown.nil⟩
      · rw [z, ePo5] at ePn5
        cases ePn5
      · rw [z, ePo5] at hpb
        cases hpb
      · rw [z, ePo5] at hpc
        cases hpc
    have hP6 := (hP5.off npop (o := .dK (ownKV pn pb pc))).up (show n + 1 + ((1 + m : Nat) : Int) ≤ n + 8 by omega) (by omega)
    generalize upd H5 po (.dK (ownKV pn pb pc)) = H6 at os hP6 ⊢
    refine i_set (i_op (i_var rfl (i_cb (i_cons (i_call (i_cons (i_var rfl (i_cons (i_op (i_op (i_var rfl (i_var rfl ⟨_, _, rfl, rfl, i_c ⟨_, _, rfl, rfl, ?_⟩⟩))))))))))))
    refine i_nil ⟨p, _, n + 8, rfl, by omega, by omega, hP6, by omega, fun H7 ra s7 hP7 a0 a1 => ?_⟩
    refine i_cons (i_call (i_cons (i_var rfl (i_cons (i_op (i_op (i_var rfl (i_var rfl ⟨_, _, rfl, rfl, i_c ⟨_, _, rfl, rfl, ?_⟩⟩))))))))
    refine i_nil ⟨p, _, n + 8 + 1, rfl, by omega, by omega, hP7, by omega, fun H8 rb s8 hP8 b0 b1 => ?_⟩
    refine i_nil ⟨_, _, rfl, ⟨_, _, rfl, rfl, ?_⟩⟩
    have os8 := (os.on s7).on s8
    obtain ⟨dd, edd, d0, d1⟩ : ∃ dd : Int, fw + (if rb > ra then rb else ra) = dd ∧ 0 ≤ dd ∧ dd ≤ u := by
      refine ⟨_, rfl, ?_⟩
      split <;> omega
    dsimp only
    rw [edd]
    refine cut_nx (fun σ' H' => ∃ b us st dd r8 r9 r10 r11, σ' = [some (.ref p), some (.int t), some (.int fw), some (.int u), some (.int g), some (.ref pl), some (.ref po), some (.int dd), r8, r9, r10, r11] ∧ OS K H H' p po pn b pc vn us st ∧ Pot H' p (n + 30) ∧ (st.length : Int) ≤ dd ∧ dd ≤ u) (fun σ' H' hR => ?_) (fun NX nx => ?_)
    case refine_2 =>
      refine i_and (i_test (i_op (i_var rfl (i_c ⟨_, _, rfl, rfl, ⟨_, rfl, ite2 (fun e => ?_) (fun e => ?_)⟩⟩))))
      · have u3 : 2 < u := of_decide_eq_true e
        refine i_test (i_op (i_call (i_cons (i_var rfl (i_cons (i_c (i_nil ⟨p, 8, _, rfl, by decide, by decide, hP8, by omega, fun H9 r9 s9 hP9 q0 q1 => i_c ⟨_, _, rfl, rfl, ⟨_, rfl, ite2 (fun e => ?_) (fun e => ?_)⟩⟩⟩)))))))
        · refine i_set (i_cb (i_cons (i_cb (i_cons (i_var rfl (i_nil (.inl ⟨_, rfl, i_cons (i_c (i_nil ⟨_, _, rfl, ?_⟩))⟩)))))))
          obtain ⟨d2, ed2, d3, d4⟩ : ∃ d2 : Int, (if (3 : Int) > dd then (3 : Int) else dd) = d2 ∧ 3 ≤ d2 ∧ d2 ≤ u := by
            refine ⟨_, rfl, ?_⟩
            split <;> omega
          dsimp only
          rw [ed2]
          have os9 := os8.on s9
          obtain ⟨z1, z2, z3, z4, z5, z6, z7, z8, z9⟩ := id os9
          refine i_par (i_cons (i_call (i_cons (i_var rfl (i_cons (i_dget (i_var rfl (i_c ⟨po, _, rfl, get_dk (k := .inr "vessels") (but_same _ _ z4) (own_a pn pb pc), ?_⟩))))))))
          refine i_nil ⟨p, pn, sV vn, _, rfl, SqL.of z5, by rw [sV_len]; exact List.length_pos_iff.mpr vne, by rw [sV_len]; omega, hP9, by omega, fun H10 v s10 hP10 hv => ?_⟩
          obtain ⟨x, hx, rfl⟩ := List.mem_map.mp hv
          refine i_cons (i_lc (i_cons (i_c (i_nil ⟨2, rfl, by omega, by omega, fun Dl nDl => ?_⟩))))
          have nDp : Dl ≠ p := fun z => pot_some hP10 (z ▸ nDl)
          refine lr_range (fun i H' => Same (But H10 p) (But H' p) ∧ Pot H' p (n + 8 + 1 + 1 + 1 + 1 + i) ∧ ∃ zs : List Int, H' Dl = some (.lst (zs.map V.int)) ∧ zs.length = i ∧ ∀ z ∈ zs, 1 ≤ z ∧ z ≤ 99) ?_ (fun i H' hi hI => ?_) (fun H' hI => ?_)
          · refine ⟨but_fresh nDl (pot_some hP10), ?_, [], upd_same, rfl, fun z hz => nomatch hz⟩
            rw [show n + 8 + 1 + 1 + 1 + 1 + ((0 : Nat) : Int) = n + 8 + 1 + 1 + 1 + 1 by omega]
            exact hP10.new nDl
          · obtain ⟨c10, hPi, zs, eD, lz, bz⟩ := hI
            refine ⟨rfl, i_yes (iteT (i_cb (i_cons (i_c (i_cons (i_op (i_c (i_call (i_cons (i_var rfl (i_cons (i_var rfl (i_nil ⟨p, g, _, rfl, by omega, by omega, hPi, by omega, fun H11 r s11 hP11 q0 q1 => ⟨_, _, rfl, rfl, i_nil ⟨_, _, rfl, ?_⟩⟩⟩)))))))))))))⟩
            have eD11 := s11 _ _ ((del_ne nDp).trans eD)
            refine ⟨zs.map V.int, but_same _ _ eD11, by rw [List.length_map, lz]; exact Nat.lt_of_lt_of_le (by omega : i < 2) (by decide), but_mut nDl (pot_some hP10) (c10.trans s11), ?_, zs ++ [if 2 + r < 99 then 2 + r else 99], ?_, ?_, ?_⟩
            · rw [show n + 8 + 1 + 1 + 1 + 1 + ((i + 1 : Nat) : Int) = n + 8 + 1 + 1 + 1 + 1 + i + 1 by omega]
              exact hP11.off nDp
            · rw [upd_same, List.map_append]
              rfl
            · rw [List.length_append, lz]
              rfl
            · intro z hz
              rcases List.mem_append.mp hz with hz | hz
              · exact bz z hz
              · rw [List.mem_singleton.mp hz]
                split <;> omega
          · obtain ⟨c10, hPi, zs, eD, lz, bz⟩ := hI
            obtain ⟨y1, y2, rfl⟩ : ∃ y1 y2, zs = [y1, y2] := by
              match zs, lz with
              | [a, b], _ => exact ⟨a, b, rfl⟩
            have by1 := bz y1 (List.mem_cons_self ..)
            have by2 := bz y2 (List.mem_cons_of_mem _ (List.mem_cons_self ..))
            refine i_nil ⟨_, _, rfl, ?_⟩
            have b10 := (z3.trans s10).trans c10
            have osI := (os9.on s10).on c10
            refine i_set (i_lst (i_cons (i_tup (i_cons (i_c (i_cons (i_var rfl (i_cons (i_op (i_var rfl (i_c ⟨Dl, _, 0, _, rfl, rfl, SqL.of eD, at_0 _ _, ?_⟩)))))))))))
            refine i_nil ⟨by show 3 ≤ sizeLine; decide, fun T1 nT1 => ?_⟩
            have v1 := same_new (o := .tup [.str "fill", .str x, .int y1]) nT1
            have eT1 : (upd H' T1 (.tup [.str "fill", .str x, .int y1])) T1 = some (.tup [.str "fill", .str x, .int y1]) := upd_same
            have hPv1 := hPi.sameH v1
            have osV1 := osI.on (same_but v1)
            have eD1 := v1 _ _ eD
            change tCons _ _ _ (upd H' T1 (.tup [.str "fill", .str x, .int y1])) _
            generalize upd H' T1 (.tup [.str "fill", .str x, .int y1]) = J1 at v1 eT1 hPv1 osV1 eD1 ⊢
            refine i_cons (i_tup (i_cons (i_c (i_cons (i_var rfl (i_cons (i_op (i_var rfl (i_c ⟨Dl, _, 1, _, rfl, rfl, SqL.of eD1, at_1 _ _ _, ?_⟩)))))))))
            refine i_nil ⟨by show 3 ≤ sizeLine; decide, fun T2 nT2 => ?_⟩
            have v2 := same_new (o := .tup [.str "dye", .str x, .int y2]) nT2
            have eT2 : (upd J1 T2 (.tup [.str "dye", .str x, .int y2])) T2 = some (.tup [.str "dye", .str x, .int y2]) := upd_same
            have hPv2 := hPv1.sameH v2
            have osV2 := osV1.on (same_but v2)
            have eT12 := v2 _ _ eT1
            change tNil _ (upd J1 T2 (.tup [.str "dye", .str x, .int y2])) _
            generalize upd J1 T2 (.tup [.str "dye", .str x, .int y2]) = J2 at v2 eT2 hPv2 osV2 eT12 ⊢
            refine i_nil ⟨by show 2 ≤ sizeLine; decide, fun pB npB => ?_⟩
            have v3 := same_new (o := .lst [.ref T1, .ref T2]) npB
            have npBp : pB ≠ p := fun z => pot_some hPv2 (z ▸ npB)
            have npB0 : H pB = none := keep_none osV2.2.2.1 (pot_some hPv2) npB
            have eB : (But (upd J2 pB (.lst [.ref T1, .ref T2])) p) pB = some (.lst [.ref T1, .ref T2]) := (del_ne npBp).trans upd_same
            have hPv3 := hPv2.sameH v3
            have osV3 := osV2.on (same_but v3)
            have nT1p : T1 ≠ p := fun z => by
              obtain ⟨a1, a2, a3, a4, _⟩ := hPv2
              rw [← z, eT12] at a4
              cases a4
            have nT2p : T2 ≠ p := fun z => by
              obtain ⟨a1, a2, a3, a4, _⟩ := hPv2
              rw [← z, eT2] at a4
              cases a4
            have eT13 : (But (upd J2 pB (.lst [.ref T1, .ref T2])) p) T1 = some (.tup [.str "fill", .str x, .int y1]) := (del_ne nT1p).trans (v3 _ _ eT12)
            have eT23 : (But (upd J2 pB (.lst [.ref T1, .ref T2])) p) T2 = some (.tup [.str "dye", .str x, .int y2]) := (del_ne nT2p).trans (v3 _ _ eT2)
            change sDPut _ _ _ _ _ (upd J2 pB (.lst [.ref T1, .ref T2]))
            generalize upd J2 pB (.lst [.ref T1, .ref T2]) = J3 at v3 eB hPv3 osV3 eT13 eT23 ⊢
            have dk1 : deedOk vn [] [] ["fill", x] (some y1) = true := deed_two (.inl rfl) hx (by decide) by1.1 by1.2
            have dk2 : deedOk vn [] [] ["dye", x] (some y2) = true := deed_two (.inr rfl) hx (by decide) by2.1 by2.2
            have dk12 : deedOk vn [(["fill", x], some y1)] [] ["dye", x] (some y2) = true := deed_two (.inr rfl) hx (by show (1 : Nat) ≠ 14; decide) by2.1 by2.2
            have dk21 : deedOk vn [(["dye", x], some y2)] [] ["fill", x] (some y1) = true := deed_two (.inl rfl) hx (by show (1 : Nat) ≠ 14; decide) by1.1 by1.2
            have m12 : Grown vn [(["fill", x], some y1), (["dye", x], some y2)] := (Grown.nil.snoc dk1).snoc dk12
            have m21 : Grown vn [(["dye", x], some y2), (["fill", x], some y1)] := (Grown.nil.snoc dk2).snoc dk21
            refine i_dputL (i_ifx (i_test (i_op (i_call (i_cons (i_var rfl (i_cons (i_c (i_nil ⟨p, 2, _, rfl, by decide, by decide, hPv3, by omega, fun H14 r14 s14 hP14 q0 q1 => i_c (r_eqI ⟨_, rfl, ite2 (fun e => ?_) (fun e => ?_)⟩)⟩)))))))))
            · have osE := osV3.on s14
              refine i_var rfl ⟨_, rfl, po, _, rfl, .inl ⟨_, .inr ("steps" : Str), but_same _ _ osE.2.2.2.1, rfl, by show 3 < _; decide, rfl⟩, ?_⟩
              rw [put_b]
              refine nx _ _ ⟨pB, [.ref T1, .ref T2], _, d2, _, _, _, _, rfl, osE.put npo0 npB0 hp0 (s14 _ _ eB) (((StepsAt.nil.snoc (z := (["fill", x], some y1)) (SqT.of (s14 _ _ eT13))).snoc (z := (["dye", x], some y2)) (SqT.of (s14 _ _ eT23)))) m12 (fun z => ?_), ?_, ?_, d4⟩
              · have w1 := s14 _ _ eB
                have w2 := osE.2.2.2.2.2.2.2.1
                rw [z, w2] at w1
                cases w1
              · exact (hP14.off npop).up (by omega) (by omega)
              · show (2 : Int) ≤ d2
                omega
            · refine ⟨_, rfl, pB, _, rfl, SqL.of (but_same _ _ (s14 _ _ eB)), fun pR npR => ?_⟩
              have v4 := same_new (o := .lst ([V.ref T1, V.ref T2] : List V).reverse) npR
              have npRp : pR ≠ p := fun z => pot_some hP14 (z ▸ npR)
              have eR : (But (upd H14 pR (.lst ([V.ref T1, V.ref T2] : List V).reverse)) p) pR = some (.lst [.ref T2, .ref T1]) := (del_ne npRp).trans upd_same
              have os14 := osV3.on s14
              have npR0 : H pR = none := keep_none os14.2.2.1 (pot_some hP14) npR
              have osE := os14.on (same_but v4)
              have hP15 := hP14.sameH v4
              have eT14 := same_but v4 _ _ (s14 _ _ eT13) (p := p)
              have eT24 := same_but v4 _ _ (s14 _ _ eT23) (p := p)
              generalize upd H14 pR (.lst ([V.ref T1, V.ref T2] : List V).reverse) = J4 at v4 eR osE hP15 eT14 eT24 ⊢
              refine ⟨_, rfl, po, _, rfl, .inl ⟨_, .inr ("steps" : Str), but_same _ _ osE.2.2.2.1, rfl, by show 3 < _; decide, rfl⟩, ?_⟩
              rw [put_b]
              refine nx _ _ ⟨pR, [.ref T2, .ref T1], _, d2, _, _, _, _, rfl, osE.put npo0 npR0 hp0 eR (((StepsAt.nil.snoc (z := (["dye", x], some y2)) (SqT.of eT24)).snoc (z := (["fill", x], some y1)) (SqT.of eT14))) m21 (fun z => ?_), ?_, ?_, d4⟩
              · have w2 := osE.2.2.2.2.2.2.2.1
                rw [z, w2] at eR
                cases eR
              · exact (hP15.off npop).up (by omega) (by omega)
              · show (2 : Int) ≤ d2
                omega
        · exact nx _ _ ⟨pb, [], [], dd, _, _, _, _, rfl, os8.on s9, hP9.up (by omega) (by omega), d0, d1⟩
      · exact nx _ _ ⟨pb, [], [], dd, _, _, _, _, rfl, os8, hP8.up (by omega) (by omega), d0, d1⟩
    case refine_1 =>
      obtain ⟨b, us, st, dd, r8, r9, r10, r11, rfl, os, hPx, dst, du⟩ := hR
      obtain ⟨z1, z2, z3, z4, z5, z6, z7, z8, z9⟩ := id os
      have lus := z7.1
      obtain ⟨k, ek⟩ : ∃ k : Nat, dd - ((us.length : Nat) : Int) = (k : Int) := ⟨(dd - ((us.length : Nat) : Int)).toNat, by omega⟩
      refine i_for (i_cons (i_op (i_var rfl (i_cb (i_cons (i_dget (i_var rfl (i_c ⟨po, _, rfl, get_dk (k := .inr "steps") (but_same _ _ z4) (own_b pn b pc), i_nil ⟨b, us, rfl, .inl (SqL.of (but_same _ _ z6)), ⟨_, _, rfl, rfl, ?_⟩⟩⟩))))))))
      dsimp only
      rw [ek]
      refine i_nil ⟨k, rfl, by omega, by omega, fr_range (n := k) (fun i σ' H1 => ∃ us2 st2 r8 r9 r10 r11, σ' = [some (.ref p), some (.int t), some (.int fw), some (.int u), some (.int g), some (.ref pl), some (.ref po), some (.int dd), r8, r9, r10, r11] ∧ OS K H H1 p po pn b pc vn us2 st2 ∧ Pot H1 p (n + 30 + 10 * i) ∧ st2.length = st.length + i) ?_ (fun i σ' H1 hi hI => ?_) (fun σ' H1 hI => ?_)⟩
      · refine ⟨us, st, _, _, _, _, rfl, os, ?_, rfl⟩
        rw [show n + 30 + 10 * ((0 : Nat) : Int) = n + 30 by omega]
        exact hPx
      · obtain ⟨us2, st2, q8, q9, q10, q11, rfl, os1, hP1, l1⟩ := hI
        obtain ⟨y1, y2, y3, y4, y5, y6, y7, y8, y9⟩ := id os1
        have y9m := y9.minv hV.2.2.1
        obtain ⟨m1, m2, m3, m4, m5⟩ := id y9m
        refine i_drop (i_dget (i_var rfl (i_c ⟨po, _, rfl, get_dk (k := .inr "steps") (but_same _ _ y4) (own_b pn b pc), .inl ⟨rfl, _, SqL.of (but_same _ _ y6)⟩, ?_⟩)))
        refine i_cons (i_call (i_cons (i_var rfl (i_cons (i_var rfl (i_cons (i_op (i_call (i_cons (i_var rfl (i_nil ⟨po, vn, st2, [], rfl, os1.ownE.own.same but_same, hV.1, m1, by omega, by omega, fun pL rs H2 s2 nL eL hp => ?_⟩)))))))))))
        obtain ⟨rl, hl1, hl2⟩ := levs_last (K := K) hp
        have os2 := os1.on (same_but s2)
        have hP2 := hP1.sameH s2
        have nrl := pot_neD hP2 hl2
        refine ⟨1, rfl, pL, rs.map V.ref, -1, .ref rl, rfl, rfl, SqL.of eL, hl1, ?_⟩
        refine i_cons (i_var rfl (i_nil ⟨p, po, rl, g, n + 30 + 10 * i, vn, st2, [], rfl, os2.ownE.own, hV, (del_ne nrl).trans hl2, y9m, by omega, g1, g2, hP2, by omega, fun H3 T ws m s3 hP3 eT ok => ?_⟩))
        have os3 := os2.on s3
        have eb3 := os3.2.2.2.2.2.1
        refine i_nil ⟨b, us2, .ref T, rfl, rfl, but_same _ _ eb3, ?_, ?_⟩
        · have lus2 := y7.1
          exact small1000 (by omega)
        · refine ⟨us2 ++ [.ref T], st2 ++ [(ws, some m)], _, _, _, _, rfl, os3.app hp0 vne eT ok, ?_, ?_⟩
          · rw [show n + 30 + 10 * ((i + 1 : Nat) : Int) = n + 30 + 10 * i + 10 by omega]
            exact hP3.off (but_ne eb3)
          · rw [List.length_append, l1]
            rfl
      · obtain ⟨us2, st2, q8, q9, q10, q11, rfl, os1, hP1, l1⟩ := hI
        exact i_ret (i_var rfl (q H1 po pn vn st2 os1.2.2.1 (hP1.up (by omega) (by omega)) os1.ownE hV os1.2.2.2.2.2.2.2.2 (by omega)))
end
end K10
set_option Elab.async false
set_option linter.all false
set_option maxRecDepth 100000
set_option maxHeartbeats 4000000
namespace K10
open PySem PySem.Spec PyProof.Rows L2 Er
section
variable {P : Program} {w : World} {K : PySem.W.Frag} {mg : Str → Option Value} {base : Heap} {f : Addr} {fd : FuncData}
theorem sc_spot_text : FnScope ["place"] ["place"] (defScope s_spot_text) := ⟨rfl, rfl, rfl, by decide +kernel, rfl, by decide +kernel, by decide +kernel⟩
theorem ok_spot_text (T : Tx K mg) (F : FunD K "_law_spot_text" "_law_spot_text" (defArgs s_spot_text) (defBody s_spot_text) (defScope s_spot_text) [] [] f fd) : FnOk P w K mg base CX0 1 f fd ["place"] (spSpotText K) := by
  refine F.ok sc_spot_text (fun vs H Q E h => ?_) (fun cdv A outer s H vs Q E hr h => ?_)
  · obtain ⟨p, ws, n, rfl, _⟩ := h
    rfl
  · obtain ⟨p, ws, n, rfl, hp, h1, h2, n0, n1, q⟩ := h
    refine ⟨_, PSs.nox (pss_one (ps_ret (pe_join pe_str (pe_op op_cat (pe_callTy call_list_of (by rfl) (T.fr "list" (mem_at 9 rfl)) (by decide +kernel) (pa_cons (pe_slice sl_tup (pv 0) po_none (po_some (pe_un un_neg pe_int))) pa_nil)) (pe_lst (pa_cons (pe_callTy call_str_int (by rfl) (T.fr "str" (mem_at 15 rfl)) (by decide +kernel) (pa_cons (pe_ix ix_tup (pv 0) (pe_un un_neg pe_int) (fun _ _ => rfl)) pa_nil)) pa_nil)))))), ?_⟩
    exact i_ret (i_row (i := 0) rfl hp h1 h2 n0 n1 q)
theorem sc_text : FnScope ["own", "rows", "deed", "word", "size", "place"] ["own"] (defScope s_text) := ⟨rfl, rfl, rfl, by decide +kernel, rfl, by decide +kernel, by decide +kernel⟩
theorem ok_text (T : Tx K mg) (F : FunD K "_law_text" "_law_text" (defArgs s_text) (defBody s_text) (defScope s_text) [] [] f fd) {fdGSx : FuncData} (GSx : FnOk P w K mg base CX0 1 (He.ga K "_law_spot_text") fdGSx ["place"] (spSpotText K)) (GSxF : FnT K "_law_spot_text" s_spot_text fdGSx) (GSxB : Binds K fdGSx ["place"] []) : FnOk P w K mg base CX0 2 f fd ["own"] (spText K) := by
  refine F.ok sc_text (fun vs H Q E h => ?_) (fun cdv A outer s H vs Q E hr h => ?_)
  · obtain ⟨o, pn, vn, st, sa, rfl, _⟩ := h
    rfl
  · obtain ⟨o, pn, vn, st, sa, rfl, hO, hV, hst, l14, hsa, l6, q⟩ := h
    have hr_GSx := hr
    refine ⟨_, PSs.nox (pss_cons (ps_set (i := 1) sc_text.nd rfl (Or.inl rfl) (pe_lst (pa_cons (pe_join pe_str (pe_op op_cat (pe_lst (pa_cons pe_str pa_nil)) (pe_dget (hu_of hr) (pv 0) pe_str (fun _ _ => rfl)))) pa_nil)))
      (pss_cons (ps_expr (pe_bm PySem.F.plainAttrs_list PySem.F.slot_list_extend PySem.F.type_list_extend mt_extend (pv 1) (pa_cons (pe_lc (own := [("deed", 2)]) (g := gName 2) (tt := tYes) (te := teRow K 2) rfl sc_text.nd (pi_list (pe_dget (hu_of hr) (pv 0) pe_str (fun _ _ => rfl))) (blkOk_by (N := ["own", "rows", "deed", "word", "size", "place"]) (sc := defScope s_text) (by decide +kernel)) (fun _ _ _ _ _ => pg_name (i := 2) sc_text.nd rfl (Or.inl rfl)) (fun _ _ _ _ _ => pts_nil) (fun _ _ _ _ _ => (pe_join pe_str (pe_op op_cat (pe_callTy call_list_of (by rfl) (T.fr "list" (mem_at 9 rfl)) (by decide +kernel) (pa_cons (pe_slice sl_tup (pv 2) po_none (po_some (pe_un un_neg pe_int))) pa_nil)) (pe_lst (pa_cons (pe_callTy call_str_int (by rfl) (T.fr "str" (mem_at 15 rfl)) (by decide +kernel) (pa_cons (pe_ix ix_tup (pv 2) (pe_un un_neg pe_int) (fun _ _ => rfl)) pa_nil)) pa_nil)))))) pa_nil)))
      (pss_cons (ps_expr (pe_bm PySem.F.plainAttrs_list PySem.F.slot_list_extend PySem.F.type_list_extend mt_extend (pv 1) (pa_cons (pe_lc (own := [("word", 3), ("size", 4), ("place", 5)]) (g := gTup K 3 (gCons (gName 3) (gCons (gName 4) (gCons (gName 5) gNil)))) (tt := tYes) rfl sc_text.nd (pi_list (pe_dget (hu_of hr) (pv 0) pe_str (fun _ _ => rfl))) (blkOk_by (N := ["own", "rows", "deed", "word", "size", "place"]) (sc := defScope s_text) (by decide +kernel)) (fun _ _ _ _ _ => pg_tup rfl (pgs_cons (pg_name (i := 3) sc_text.nd rfl (Or.inl rfl)) (pgs_cons (pg_name (i := 4) sc_text.nd rfl (Or.inl rfl)) (pgs_cons (pg_name (i := 5) sc_text.nd rfl (Or.inl rfl)) pgs_nil)))) (fun _ _ _ _ _ => pts_nil) (fun _ _ _ _ _ => (pe_op op_add_str (pe_op op_add_str (pe_op op_add_str (pe_op op_add_str (pv 3) pe_str) (pe_callTy call_str_int (by rfl) (T.fr "str" (mem_at 15 rfl)) (by decide +kernel) (pa_cons (pv 4) pa_nil))) pe_str) (pe_call GSx hr_GSx (by rfl) (T.gd "_law_spot_text" (mem_at 48 rfl)) GSxF.kp GSxB .nil pass0 (pa_cons (pv 5) pa_nil))))) pa_nil)))
      (pss_one (ps_ret (pe_join pe_str (pv 1))))))), ?_⟩
    have hV0 := hV
    obtain ⟨nd, vne, v6, vok⟩ := hV
    obtain ⟨b, c, us, ws0, hOd, hA, hB, hS, hC, hW⟩ := hO
    have lvn : (sV vn).length = vn.length := sV_len vn
    have hrows := rows_ok hV0 hst l14 hsa
    refine i_set (i_lst (i_cons ⟨⟨_, rfl⟩, i_op (i_lst (i_cons (i_c (i_nil ⟨by show 1 ≤ sizeLine; decide, fun p1 n1 => i_dget (i_var rfl (i_c ⟨o, _, rfl, get_dk (k := .inr "vessels") (same_new n1 _ _ hOd) (own_a pn b c), p1, pn, [.str "vessels"], sV vn, rfl, rfl, upd_same, same_new n1 _ _ hA, ?_, fun p2 n2 => ⟨(" " : Str), p2, ("vessels" : Str) :: vn, rfl, rfl, .inl (SqL.of upd_same), ?_, i_nil ⟨by show 1 ≤ sizeLine; decide, fun pr npr => ?_⟩⟩⟩))⟩))))⟩))
    · rw [lvn]
      exact Nat.le_trans (show 1 + vn.length ≤ 7 by omega) (by decide)
    · have z := sum_le (fun w : Str => w.length) 8 (("vessels" : Str) :: vn) (fun w hw => by
        rcases List.mem_cons.mp hw with rfl | hw
        · decide +kernel
        · exact (vok w hw).2.2.1)
      rw [show (" " : Str).length = 1 by decide +kernel]
      have z2 : (("vessels" : Str) :: vn).length ≤ 7 := by
        rw [List.length_cons]
        omega
      show (List.map (fun w : Str => w.length) _).sum + _ * 1 ≤ _
      omega
    have s1 := ((same_new (o := .lst [.str "vessels"]) n1).trans (same_new (o := .lst ([.str "vessels"] ++ sV vn)) n2)).trans (same_new (o := .lst [.str (Txt.join " " ("vessels" :: vn))]) npr)
    have npr0 : H pr = none := none_back ((same_new (o := .lst [.str "vessels"]) n1).trans (same_new (o := .lst ([.str "vessels"] ++ sV vn)) n2)) npr
    have er : (upd (upd (upd H p1 (.lst [.str "vessels"])) p2 (.lst ([.str "vessels"] ++ sV vn))) pr (.lst [.str (Txt.join " " ("vessels" :: vn))])) pr = some (.lst (sV [Txt.join " " ("vessels" :: vn)])) := upd_same
    change tSeq _ _ _ _ (upd (upd (upd H p1 (.lst [.str "vessels"])) p2 (.lst ([.str "vessels"] ++ sV vn))) pr (.lst [.str (Txt.join " " ("vessels" :: vn))]))
    generalize upd (upd (upd H p1 (.lst [.str "vessels"])) p2 (.lst ([.str "vessels"] ++ sV vn))) pr (.lst [.str (Txt.join " " ("vessels" :: vn))]) = H1 at s1 er ⊢
    generalize hr0 : Txt.join " " ("vessels" :: vn) = r0 at er
    refine i_do ⟨_, rfl, .inl ⟨rfl, _, SqL.of er⟩, i_cons (i_lc ⟨_, rfl, o, _, rfl, get_dk (k := .inr "steps") (s1 _ _ hOd) (own_b pn b c), b, rfl, ⟨_, SqL.of (s1 _ _ hB)⟩, fun Dl nDl => ?_⟩)⟩
    have lus := hS.1
    refine lr_map (walk_list (K := K) (a := b) (xs := us)) (st.map fun s => V.str (stepRow s.1 (s.2.getD 0))) (by rw [List.length_map, lus]) (by omega) nDl (fun H2 s => SqL.of (s _ _ (s1 _ _ hB))) (fun i x H2 H3 v hv s2 hy Q' k => ?_) (fun _ _ _ => gName_mono) (fun H2 e2 s2 => ?_)
    · obtain ⟨rfl, hx⟩ := hy
      rw [List.getElem?_map] at hv
      obtain ⟨s, hs, rfl⟩ := Option.map_eq_some_iff.mp hv
      obtain ⟨r, hr1, hr2⟩ := hS.2 i s hs
      cases Option.some.inj (hr1.symm.trans hx)
      obtain ⟨g1, g2, m, em, m1, m2⟩ := step_words hV0 (hst s (List.mem_of_getElem? hs))
      rw [em] at hr2 k
      exact ⟨rfl, i_row (i := 2) rfl (sameT (s1.trans s2) hr2) (by omega) (fun w hw => Nat.le_trans (g2 w hw).1 (by decide)) (by omega) (by omega) fun H' s' => k _ s'⟩
    have er2 := s2 _ _ er
    have t2 := s1.trans s2
    refine i_nil ⟨pr, Dl, _, _, rfl, rfl, er2, e2, ?_, ?_⟩
    · rw [sV_len, List.length_map]
      exact Nat.le_trans (show [r0].length + st.length ≤ 15 by simp; omega) (by decide)
    have b3 : Same H (upd H2 pr (.lst (sV [r0] ++ st.map fun s => V.str (stepRow s.1 (s.2.getD 0))))) := same_mut t2 npr0
    have e3 : (upd H2 pr (.lst (sV [r0] ++ st.map fun s => V.str (stepRow s.1 (s.2.getD 0))))) pr = some (.lst (sV ([r0] ++ st.map fun s => stepRow s.1 (s.2.getD 0)))) := by
      rw [upd_same]
      unfold sV
      rw [List.map_append, List.map_map]
      rfl
    generalize upd H2 pr (.lst (sV [r0] ++ st.map fun s => V.str (stepRow s.1 (s.2.getD 0)))) = H3 at b3 e3 ⊢
    refine i_do ⟨_, rfl, .inl ⟨rfl, _, SqL.of e3⟩, i_cons (i_lc ⟨_, rfl, o, _, rfl, get_dk (k := .inr "samples") (b3 _ _ hOd) (own_c pn b c), c, rfl, ⟨_, SqL.of (b3 _ _ hC)⟩, fun Dm nDm => ?_⟩)⟩
    have lws := hW.length
    refine lr_map (walk_list (K := K) (a := c) (xs := ws0)) (sa.map fun z => V.str (sampRow z)) (by rw [List.length_map, lws]) (by omega) nDm (fun H4 s => SqL.of (s _ _ (b3 _ _ hC))) (fun i x H4 H5 v hv s4 hy Q' k => ?_) (fun i x H3 A B f ⟨p, xs, e1, e2, e3, y1, r1, q1, y2, r2, q2, y3, r3, q3, q4, h⟩ => ⟨p, xs, e1, e2, e3, y1, r1, q1, y2, r2, q2, y3, r3, q3, q4, f _ _ h⟩) (fun H4 e4 s4 => ?_)
    · obtain ⟨rfl, hx⟩ := hy
      rw [List.getElem?_map] at hv
      obtain ⟨z, hz, rfl⟩ := Option.map_eq_some_iff.mp hv
      obtain ⟨k0, n, ws, m, rfl, hk, n0, n1, lw, hw, m0, m1⟩ := samp_words hV0 l14 (hsa z (List.mem_of_getElem? hz))
      obtain ⟨vz, hvz, hsv⟩ := paired_at2 hW hz
      cases Option.some.inj (hvz.symm.trans hx)
      obtain ⟨a1, a2, rfl, hT1, hT2⟩ := hsv
      have t4 := b3.trans s4
      refine ⟨a1, _, rfl, sameT t4 hT1, rfl, _, _, rfl, ?_⟩
      refine ⟨_, _, rfl, _, _, rfl, rfl, ?_⟩
      obtain ⟨d1, d2, d3⟩ := num_ok n0 n1
      have lk := hk.1
      have l3 := (rowB_step hw (by omega) m0 (by omega)).1
      have lb : (" " : Str).length = 1 := by decide +kernel
      have big : ∀ a : Nat, a ≤ 1000 → a ≤ sizeLine := fun a h => Nat.le_trans h (by decide)
      refine ⟨rfl, i_op (i_op (i_op (i_op (i_var rfl (i_c ⟨_, _, rfl, rfl, big _ (by omega), ?_⟩))))) ⟩
      refine i_cb (i_cons (i_var rfl (i_nil ⟨n, rfl, d3, ⟨_, _, rfl, rfl, big _ ?_, i_c ⟨_, _, rfl, rfl, big _ ?_, ?_⟩⟩⟩)))
      · rw [app_len]
        have d1' : (Str.ofString (toString n)).length ≤ 4 := d1
        omega
      · rw [app_len, app_len]
        have d1' : (Str.ofString (toString n)).length ≤ 4 := d1
        omega
      refine i_call (i_cons (i_var rfl (i_nil ⟨a2, ws, m, rfl, sameT t4 hT2, by omega, fun w hw2 => Nat.le_trans (hw w hw2).1 (by decide), m0, by omega, fun H' s' => ⟨_, _, rfl, rfl, big _ ?_, k _ s'⟩⟩)))
      rw [app_len, app_len, app_len]
      have d1' : (Str.ofString (toString n)).length ≤ 4 := d1
      omega
    have e5 := s4 _ _ e3
    refine i_nil ⟨pr, Dm, _, _, rfl, rfl, e5, e4, ?_, ?_⟩
    · rw [sV_len, List.length_map, List.length_append, List.length_map]
      exact Nat.le_trans (show [r0].length + st.length + sa.length ≤ 21 by simp; omega) (by decide)
    have b6 : Same H (upd H4 pr (.lst (sV ([r0] ++ st.map fun s => stepRow s.1 (s.2.getD 0)) ++ sa.map fun z => V.str (sampRow z)))) := same_mut (b3.trans s4) npr0
    have e6 : (upd H4 pr (.lst (sV ([r0] ++ st.map fun s => stepRow s.1 (s.2.getD 0)) ++ sa.map fun z => V.str (sampRow z)))) pr = some (.lst ((yRows vn st sa).map V.str)) := by
      rw [upd_same]
      unfold sV yRows
      rw [hr0]
      simp only [List.map_append, List.map_map, List.map_cons, List.map_nil, List.append_assoc, List.cons_append, List.nil_append]
      rfl
    refine i_ret ⟨⟨_, rfl⟩, _, rfl, ("\n" : Str), pr, yRows vn st sa, rfl, rfl, .inl (SqL.of e6), ?_, q _ b6⟩
    have z := sum_le (fun w : Str => w.length) 70 (yRows vn st sa) fun w hw => (hrows w hw).1
    have z2 : (yRows vn st sa).length ≤ 21 := by
      unfold yRows
      rw [List.length_cons, List.length_append, List.length_map, List.length_map]
      omega
    rw [show ("\n" : Str).length = 1 by decide +kernel]
    show (List.map (fun w : Str => w.length) _).sum + _ * 1 ≤ _
    omega
end
end K10
set_option Elab.async false
set_option linter.all false
set_option maxRecDepth 100000
set_option maxHeartbeats 4000000
namespace K10
open PySem PySem.Spec PyProof.Rows L2 Er
section
variable {P : Program} {w : World} {K : PySem.W.Frag} {mg : Str → Option Value} {base : Heap} {f : Addr} {fd : FuncData}
theorem sc_dyes : FnScope ["own", "its", "found", "deed", "dyed", "later", "name"] ["own", "its"] (defScope s_dyes) := ⟨rfl, rfl, rfl, by decide +kernel, rfl, by decide +kernel, by decide +kernel⟩
theorem ok_dyes (T : Tx K mg) (F : FunD K "_law_dyes" "_law_dyes" (defArgs s_dyes) (defBody s_dyes) (defScope s_dyes) [] [] f fd) : FnOk P w K mg base CX0 1 f fd ["own", "its"] (spDyes K) := by
  refine F.ok sc_dyes (fun vs H Q E h => ?_) (fun cdv A outer s H vs Q E hr h => ?_)
  · obtain ⟨o, t, vn, st, sa, its, rfl, _⟩ := h
    rfl
  · obtain ⟨o, t, vn, st, sa, its, rfl, ⟨a, b, c, us, ws, hO, hA, hB, hS, hC, hW⟩, hI, nd, hst, h1, h2, q⟩ := h
    refine ⟨_, PSs.nox (pss_cons (ps_set (i := 2) sc_dyes.nd rfl (Or.inl rfl) (pe_lst (pa_cons (pe_callTy (call_dictP rfl) (by rfl) (T.fr "dict" (mem_at 4 rfl)) (by decide +kernel) (pa_cons (pe_lc (own := [("name", 6)]) (g := gName 6) (tt := tYes) rfl sc_dyes.nd (pi_list (pe_dget (hu_of hr) (pv 0) pe_str (fun _ _ => rfl))) (blkOk_by (N := ["own", "its", "found", "deed", "dyed", "later", "name"]) (sc := defScope s_dyes) (by decide +kernel)) (fun _ _ _ _ _ => pg_name (i := 6) sc_dyes.nd rfl (Or.inl rfl)) (fun _ _ _ _ _ => pts_nil) (fun _ _ _ _ _ => (pe_tup (pa_cons (pv 6) (pa_cons pe_int pa_nil))))) pa_nil)) pa_nil)))
      (pss_cons (ps_for PassesOwn.never rfl (pi_zipLT (by rfl) (T.fr "zip" (mem_at 18 rfl)) (pa_cons (pe_dget (hu_of hr) (pv 0) pe_str (fun _ _ => rfl)) (pa_cons (pv 1) pa_nil))) (pg_tup rfl (pgs_cons (pg_name (i := 3) sc_dyes.nd rfl (Or.inl rfl)) (pgs_cons (pg_name (i := 4) sc_dyes.nd rfl (Or.inl rfl)) pgs_nil)))
        (pss_cons (ps_set (i := 5) sc_dyes.nd rfl (Or.inl rfl) (pe_callTy (call_dictP rfl) (by rfl) (T.fr "dict" (mem_at 4 rfl)) (by decide +kernel) (pa_cons (LiI.pe_listItems rfl (pe_ix ix_list (pv 2) (pe_un un_neg pe_int) (fun _ _ => rfl)) (by rfl) (T.fr "list" (mem_at 9 rfl)) (by decide +kernel)) pa_nil)))
        (pss_cons (ps_if (pt_cmpR op_in_seq (pe_ix ix_tup (pv 3) pe_int (fun _ _ => rfl)) (pe_tup (pa_cons pe_str (pa_cons pe_str pa_nil))) (by rfl))
          (pss_one (ps_dput (hu_of hr) (pv 5) (pe_ix ix_tup (pv 3) pe_int (fun _ _ => rfl)) (pe_op op_sub (pe_dget (hu_of hr) (pv 5) (pe_ix ix_tup (pv 3) pe_int (fun _ _ => rfl)) (fun _ _ => rfl)) (pv 4)) (by rfl)))
          pss_nil)
        (pss_cons (ps_if (pt_cmpR op_ne (pe_ix ix_tup (pv 3) pe_int (fun _ _ => rfl)) pe_str (nomark _))
          (pss_one (ps_dput (hu_of hr) (pv 5) (pe_ix ix_tup (pv 3) (pe_un un_neg pe_int) (fun _ _ => rfl)) (pe_op op_add (pe_dget (hu_of hr) (pv 5) (pe_ix ix_tup (pv 3) (pe_un un_neg pe_int) (fun _ _ => rfl)) (fun _ _ => rfl)) (pv 4)) (by rfl)))
          pss_nil)
        (pss_one (ps_expr (pe_bm PySem.F.plainAttrs_list PySem.F.slot_list_append PySem.F.type_list_append mt_append (pv 2) (pa_cons (pv 5) pa_nil))))))))
      (pss_one (ps_ret (pv 2))))), ?_⟩
    have lvn : (sV vn).length = vn.length := List.length_map ..
    refine i_set (i_lst (i_cons (i_cb (i_cons (i_lc ⟨_, rfl, o, _, rfl, get_dk (k := .inr "vessels") hO (own_a a b c), a, rfl, ⟨_, hA⟩, fun Dl nD => ?_⟩)))))
    refine lr_it (walk_list (K := K) (a := a) (xs := sV vn)) (fun i H2 => Same H H2 ∧ ∃ ts : List Addr, H2 Dl = some (.lst (ts.map V.ref)) ∧ Paired (fun (t : Addr) (kv : Key × V) => SqT K H2 t [kV kv.1, kv.2]) ts ((vn.take i).map fun x => ((.inr x : Key), V.int 0))) ?_ (fun i H2 _ hP => hP.1.seq hA) (fun i v H2 H3 hi hP hy => ?_) (fun H2 hP => ?_)
    · exact ⟨same_new nD, [], upd_same, .nil⟩
    · obtain ⟨s3, ts, eD, hts⟩ := hP
      obtain ⟨rfl, hv⟩ := hy
      rw [lvn] at hi
      have hv2 : v = .str vn[i] := by
        unfold sV at hv
        rw [List.getElem?_map, List.getElem?_eq_getElem hi] at hv
        exact (Option.some.inj hv).symm
      subst hv2
      refine ⟨rfl, i_yes (iteT (i_tup (i_cons (i_var rfl (i_cons (i_c (i_nil ⟨by show 2 ≤ sizeLine; decide, fun pt nt => ?_⟩)))))))⟩
      have s4 := same_new (o := .tup [.str vn[i], .int 0]) nt
      have eD4 := s4 _ _ eD
      have len : ts.length = i := by
        rw [pr_len hts, List.length_map, List.length_take]
        omega
      refine ⟨ts.map V.ref, eD4, ?_, same_mut (s3.trans s4) nD, ts ++ [pt], ?_, ?_⟩
      · rw [List.length_map, len]
        exact small1000 (by omega)
      · rw [upd_same, List.map_append]
        rfl
      · have k4 : KeepT K H3 (upd (upd H3 pt (.tup [.str vn[i], .int 0])) Dl (.lst (ts.map V.ref ++ [.ref pt]))) := (KeepT.of s4).trans (KeepT.put eD4)
        have e : ((vn.take (i + 1)).map fun x => ((.inr x : Key), V.int 0)) = ((vn.take i).map fun x => ((.inr x : Key), V.int 0)) ++ [(.inr vn[i], .int 0)] := by
          rw [List.take_add_one, List.getElem?_eq_getElem hi, List.map_append]
          rfl
        rw [e]
        refine pr_snoc (x := pt) (y := ((.inr vn[i] : Key), V.int 0)) (R := fun (t : Addr) (kv : Key × V) => SqT K (upd (upd H3 pt (.tup [.str vn[i], .int 0])) Dl (.lst (ts.map V.ref ++ [.ref pt]))) t [kV kv.1, kv.2]) (show SqT K _ pt [.str vn[i], .int 0] from (KeepT.put (K := K) eD4) _ _ (SqT.of upd_same)) (pr_mono (fun t kv z => k4 _ _ z) hts)
    · obtain ⟨s3, ts, eD, hts⟩ := hP
      rw [lvn, List.take_length, ← kv_zero] at hts
      refine i_nil ⟨Dl, ts, _, rfl, SqL.of eD, hts, fun p0 n0 => ?_⟩
      rw [merge_kv nd]
      refine i_nil ⟨by show 1 ≤ sizeLine; decide, fun l nl0 => ?_⟩
      have s4 := (s3.trans (same_new (o := .dK (kvL vn (List.replicate vn.length 0))) n0)).trans (same_new (o := .lst [.ref p0]) nl0)
      have nl : H l = none := none_back (s3.trans (same_new (o := .dK (kvL vn (List.replicate vn.length 0))) n0)) nl0
      have e0 : (upd (upd H2 p0 (.dK (kvL vn (List.replicate vn.length 0)))) l (.lst [.ref p0])) p0 = some (.dK (kvL vn (List.replicate vn.length 0))) := same_new nl0 _ _ upd_same
      have el : (upd (upd H2 p0 (.dK (kvL vn (List.replicate vn.length 0)))) l (.lst [.ref p0])) l = some (.lst ([p0].map V.ref)) := upd_same
      generalize upd (upd H2 p0 (.dK (kvL vn (List.replicate vn.length 0)))) l (.lst [.ref p0]) = H4 at s4 e0 el
      have dlen : (dyedS st its).length ≤ st.length := by rw [dyedS_len]; exact Nat.min_le_left _ _
      have lits : (iV its).length = its.length := List.length_map ..
      refine i_for (i_cons ⟨_, rfl, o, _, rfl, get_dk (k := .inr "steps") (s4 _ _ hO) (own_b a b c), i_cons (i_var rfl (i_nil ⟨b, t, us, iV its, rfl, s4.seq hB, sameT s4 hI, ?_⟩))⟩)
      refine fr_it (walk_zipLT (K := K) (a := b) (b := t) (xs := us) (ys := iV its) (n := (dyedS st its).length) (by rw [dyedS_len, hS.1, lits])) (fun i σ H5 => ∃ (rs : List Addr) (x3 x4 x5 : Option V), σ = [some (.ref o), some (.ref t), some (.ref l), x3, x4, x5, none] ∧ Same H H5 ∧ H5 l = some (.lst (rs.map V.ref)) ∧ Paired (fun r lv => H5 r = some (.dK (kvL vn lv))) rs ((List.range (i + 1)).map fun j => levAt vn ((dyedS st its).take j))) ?_ (fun i σ H5 _ hP => ?_) (fun i x σ H5 H5b hi hP hy => ?_) (fun σ H5 hP => ?_)
      · exact ⟨[p0], none, none, none, rfl, s4, el, .cons e0 .nil⟩
      · obtain ⟨rs, x3, x4, x5, rfl, s5, _⟩ := hP
        exact ⟨s5.seq hB, sameT s5 hI⟩
      · obtain ⟨rs, x3, x4, x5, rfl, s5, hl, hrs⟩ := hP
        obtain ⟨Tp, u, v, rfl, nT, rfl, hu, hv⟩ := hy
        obtain ⟨w0, n, dd, hx, hd, hxs⟩ := dyedS_at hi hst
        obtain ⟨r, hr0, hT0⟩ := hS.2 i _ hx
        cases Option.some.inj (hr0.symm.trans hu)
        have hv2 : (iV its)[i]? = some (.int dd) := by
          unfold iV
          rw [List.getElem?_map, hd]
          rfl
        cases Option.some.inj (hv2.symm.trans hv)
        have hbs := hst _ (List.mem_of_getElem? hx)
        obtain ⟨_, hcs⟩ := step_cases hbs
        have sT := same_new (o := .tup [.ref r, .int dd]) nT
        refine ⟨Tp, _, rfl, SqT.of upd_same, rfl, _, _, rfl, ?_⟩
        refine ⟨_, _, rfl, rfl, ?_⟩
        replace s5 := s5.trans sT
        replace hl := sT _ _ hl
        replace hrs := pr_mono (fun r lv e => sT _ _ e) hrs
        clear nT
        generalize upd H5 Tp (.tup [.ref r, .int dd]) = H5 at s5 hl hrs sT ⊢
        clear sT
        have lrs : rs.length = i + 1 := by
          rw [pr_len hrs, List.length_map, List.length_range]
        obtain ⟨rl, hrl, hrd⟩ := pr_at (i := i) (y := levAt vn ((dyedS st its).take i)) hrs (by rw [List.getElem?_map, List.getElem?_range (by omega)]; rfl)
        have hlast : atI (rs.map V.ref) (-1) = some (.ref rl) := at_end (by
          rw [List.getLast?_eq_getElem?, List.length_map, lrs, List.getElem?_map, show i + 1 - 1 = i from rfl, hrl]
          rfl)
        refine i_set (i_cb (i_cons ⟨_, rfl, 1, rfl, l, rs.map V.ref, -1, .ref rl, rfl, rfl, SqL.of hl, hlast, rl, _, rfl, hrd, fun H6 p6 ts6 s6 np6 nts np6' hp6 hpr6 => ?_⟩))
        refine i_nil ⟨p6, ts6, _, rfl, SqL.of hp6, pr_mono (fun t kv z => SqT.of z) hpr6, fun pd npd => ?_⟩
        rw [merge_kv nd]
        have LEN : (levAt vn ((dyedS st its).take i)).length = vn.length := levAt_len
        have s7 := same_new (o := .dK (kvL vn (levAt vn ((dyedS st its).take i)))) npd
        have sA : Same H5 (upd H6 pd (.dK (kvL vn (levAt vn ((dyedS st its).take i))))) := fun b o e => s7 _ _ (s6 _ _ e)
        have hpd : (upd H6 pd (.dK (kvL vn (levAt vn ((dyedS st its).take i))))) pd = some (.dK (kvL vn (levAt vn ((dyedS st its).take i)))) := upd_same
        have npd0 : H5 pd = none := none_back (fun b o e => s6 _ _ e) npd
        generalize upd H6 pd (.dK (kvL vn (levAt vn ((dyedS st its).take i)))) = H7 at sA hpd
        have hT : SqT K H7 r (wv w0 (some n)) := sameT (s5.trans sA) hT0
        rcases hcs with ⟨x, hxv, rfl | rfl | rfl⟩ | ⟨x, y, hxv, hyv, hxy, rfl⟩
        · refine i_if0 (i_test (i_op ⟨_, rfl, i_c (r_ixT hT rfl (i_tup2 fun pt npt => r_in (.inr (SqT.of upd_same)) rfl rfl (inV_sV _ ["pour", "draw"]) ⟨_, rfl, ?_⟩))⟩))
          rw [show decide (("fill" : Str) ∈ (["pour", "draw"] : List Str)) = false by decide +kernel]
          have s8 := same_new (o := .tup [.str "pour", .str "draw"]) npt
          have hT8 := sameT s8 hT
          have hpd8 := s8 _ _ hpd
          have sB := sA.trans s8
          generalize upd H7 pt (.tup [.str "pour", .str "draw"]) = H8 at hT8 hpd8 sB ⊢
          refine iteF (i_if0 (i_test (i_op ⟨_, rfl, i_c (r_ixT hT8 rfl (i_c (r_neS ⟨_, rfl, ?_⟩)))⟩)))
          rw [show decide (("fill" : Str) ≠ "draw") = true by decide +kernel]
          refine iteT (i_dputL (i_op ⟨_, rfl, ⟨_, rfl, 2, rfl, r_ixT hT8 rfl ⟨pd, _, rfl, get_dk (k := .inr x) hpd8 (kv_get LEN hxv), ⟨_, rfl, ⟨_, _, rfl, rfl, ⟨_, rfl, ⟨_, rfl, 2, rfl, r_ixT hT8 rfl ⟨pd, _, rfl, .inl ⟨_, .inr x, hpd8, rfl, by rw [kv_len LEN]; exact Nat.lt_of_le_of_lt h2 (by decide), rfl⟩, ?_⟩⟩⟩⟩⟩⟩⟩⟩))
          rw [kv_put LEN nd hxv, ← mov_fill (show ("fill" : Str) ≠ "draw" by decide +kernel)]
          obtain ⟨sC, hlC, hrC⟩ := put_keep (o := .dK (kvL vn (movedL vn (levAt vn ((dyedS st its).take i)) ["fill", x] dd))) npd0 sB hl hrs
          dsimp only
          refine i_drop ⟨_, rfl, .inl ⟨rfl, _, SqL.of hlC⟩, i_cons (i_var rfl (i_nil ⟨l, rs.map V.ref, _, rfl, rfl, hlC, ?_, ?_⟩))⟩
          · rw [List.length_map, lrs]
            exact small1000 (by omega)
          · obtain ⟨z1, z2, z3⟩ := lev_end hxs nl (s5.trans sC) hlC hrC upd_same
            exact ⟨rs ++ [pd], _, _, _, rfl, z1, z2, z3⟩
        · refine i_if0 (i_test (i_op ⟨_, rfl, i_c (r_ixT hT rfl (i_tup2 fun pt npt => r_in (.inr (SqT.of upd_same)) rfl rfl (inV_sV _ ["pour", "draw"]) ⟨_, rfl, ?_⟩))⟩))
          rw [show decide (("dye" : Str) ∈ (["pour", "draw"] : List Str)) = false by decide +kernel]
          have s8 := same_new (o := .tup [.str "pour", .str "draw"]) npt
          have hT8 := sameT s8 hT
          have hpd8 := s8 _ _ hpd
          have sB := sA.trans s8
          generalize upd H7 pt (.tup [.str "pour", .str "draw"]) = H8 at hT8 hpd8 sB ⊢
          refine iteF (i_if0 (i_test (i_op ⟨_, rfl, i_c (r_ixT hT8 rfl (i_c (r_neS ⟨_, rfl, ?_⟩)))⟩)))
          rw [show decide (("dye" : Str) ≠ "draw") = true by decide +kernel]
          refine iteT (i_dputL (i_op ⟨_, rfl, ⟨_, rfl, 2, rfl, r_ixT hT8 rfl ⟨pd, _, rfl, get_dk (k := .inr x) hpd8 (kv_get LEN hxv), ⟨_, rfl, ⟨_, _, rfl, rfl, ⟨_, rfl, ⟨_, rfl, 2, rfl, r_ixT hT8 rfl ⟨pd, _, rfl, .inl ⟨_, .inr x, hpd8, rfl, by rw [kv_len LEN]; exact Nat.lt_of_le_of_lt h2 (by decide), rfl⟩, ?_⟩⟩⟩⟩⟩⟩⟩⟩))
          rw [kv_put LEN nd hxv, ← mov_fill (show ("dye" : Str) ≠ "draw" by decide +kernel)]
          obtain ⟨sC, hlC, hrC⟩ := put_keep (o := .dK (kvL vn (movedL vn (levAt vn ((dyedS st its).take i)) ["dye", x] dd))) npd0 sB hl hrs
          dsimp only
          refine i_drop ⟨_, rfl, .inl ⟨rfl, _, SqL.of hlC⟩, i_cons (i_var rfl (i_nil ⟨l, rs.map V.ref, _, rfl, rfl, hlC, ?_, ?_⟩))⟩
          · rw [List.length_map, lrs]
            exact small1000 (by omega)
          · obtain ⟨z1, z2, z3⟩ := lev_end hxs nl (s5.trans sC) hlC hrC upd_same
            exact ⟨rs ++ [pd], _, _, _, rfl, z1, z2, z3⟩
        · refine i_if0 (i_test (i_op ⟨_, rfl, i_c (r_ixT hT rfl (i_tup2 fun pt npt => r_in (.inr (SqT.of upd_same)) rfl rfl (inV_sV _ ["pour", "draw"]) ⟨_, rfl, ?_⟩))⟩))
          rw [show decide (("draw" : Str) ∈ (["pour", "draw"] : List Str)) = true by decide +kernel]
          have s8 := same_new (o := .tup [.str "pour", .str "draw"]) npt
          have hT8 := sameT s8 hT
          have hpd8 := s8 _ _ hpd
          have sB := sA.trans s8
          generalize upd H7 pt (.tup [.str "pour", .str "draw"]) = H8 at hT8 hpd8 sB ⊢
          refine iteT (i_dputL (i_op ⟨_, rfl, ⟨_, rfl, i_c (r_ixT hT8 rfl ⟨pd, _, rfl, get_dk (k := .inr x) hpd8 (kv_get LEN hxv), ⟨_, rfl, ⟨_, _, rfl, rfl, ⟨_, rfl, ⟨_, rfl, i_c (r_ixT hT8 rfl ⟨pd, _, rfl, .inl ⟨_, .inr x, hpd8, rfl, by rw [kv_len LEN]; exact Nat.lt_of_le_of_lt h2 (by decide), rfl⟩, ?_⟩)⟩⟩⟩⟩⟩)⟩⟩))
          rw [kv_put LEN nd hxv, ← mov_draw]
          obtain ⟨sC, hlC, hrC⟩ := put_keep (o := .dK (kvL vn (movedL vn (levAt vn ((dyedS st its).take i)) ["draw", x] dd))) npd0 sB hl hrs
          have hT9 := sameT (fun b o e => ((s5.trans sC)) b o e) hT0
          dsimp only
          refine i_if0 (i_test (i_op ⟨_, rfl, i_c (r_ixT hT9 rfl (i_c (r_neS ⟨_, rfl, ?_⟩)))⟩))
          rw [show decide (("draw" : Str) ≠ "draw") = false by decide +kernel]
          refine iteF ?_
          try dsimp only
          refine i_drop ⟨_, rfl, .inl ⟨rfl, _, SqL.of hlC⟩, i_cons (i_var rfl (i_nil ⟨l, rs.map V.ref, _, rfl, rfl, hlC, ?_, ?_⟩))⟩
          · rw [List.length_map, lrs]
            exact small1000 (by omega)
          · obtain ⟨z1, z2, z3⟩ := lev_end hxs nl (s5.trans sC) hlC hrC upd_same
            exact ⟨rs ++ [pd], _, _, _, rfl, z1, z2, z3⟩
        · refine i_if0 (i_test (i_op ⟨_, rfl, i_c (r_ixT hT rfl (i_tup2 fun pt npt => r_in (.inr (SqT.of upd_same)) rfl rfl (inV_sV _ ["pour", "draw"]) ⟨_, rfl, ?_⟩))⟩))
          rw [show decide (("pour" : Str) ∈ (["pour", "draw"] : List Str)) = true by decide +kernel]
          have s8 := same_new (o := .tup [.str "pour", .str "draw"]) npt
          have hT8 := sameT s8 hT
          have hpd8 := s8 _ _ hpd
          have sB := sA.trans s8
          generalize upd H7 pt (.tup [.str "pour", .str "draw"]) = H8 at hT8 hpd8 sB ⊢
          refine iteT (i_dputL (i_op ⟨_, rfl, ⟨_, rfl, i_c (r_ixT hT8 rfl ⟨pd, _, rfl, get_dk (k := .inr x) hpd8 (kv_get LEN hxv), ⟨_, rfl, ⟨_, _, rfl, rfl, ⟨_, rfl, ⟨_, rfl, i_c (r_ixT hT8 rfl ⟨pd, _, rfl, .inl ⟨_, .inr x, hpd8, rfl, by rw [kv_len LEN]; exact Nat.lt_of_le_of_lt h2 (by decide), rfl⟩, ?_⟩)⟩⟩⟩⟩⟩)⟩⟩))
          rw [kv_put LEN nd hxv]
          obtain ⟨sC, hlC, hrC⟩ := put_keep (o := .dK (kvL vn ((levAt vn ((dyedS st its).take i)).set (vn.idxOf x) ((levAt vn ((dyedS st its).take i)).getD (vn.idxOf x) 0 - dd)))) npd0 sB hl hrs
          have hT9 := sameT (fun b o e => ((s5.trans sC)) b o e) hT0
          have LEN2 : (((levAt vn ((dyedS st its).take i)).set (vn.idxOf x) ((levAt vn ((dyedS st its).take i)).getD (vn.idxOf x) 0 - dd))).length = vn.length := by rw [List.length_set, LEN]
          have hpd9 : (upd H8 pd (.dK (kvL vn ((levAt vn ((dyedS st its).take i)).set (vn.idxOf x) ((levAt vn ((dyedS st its).take i)).getD (vn.idxOf x) 0 - dd))))) pd = some (.dK (kvL vn ((levAt vn ((dyedS st its).take i)).set (vn.idxOf x) ((levAt vn ((dyedS st its).take i)).getD (vn.idxOf x) 0 - dd)))) := upd_same
          generalize upd H8 pd (.dK (kvL vn ((levAt vn ((dyedS st its).take i)).set (vn.idxOf x) ((levAt vn ((dyedS st its).take i)).getD (vn.idxOf x) 0 - dd)))) = H9 at sC hlC hrC hT9 hpd9 ⊢
          dsimp only
          refine i_if0 (i_test (i_op ⟨_, rfl, i_c (r_ixT hT9 rfl (i_c (r_neS ⟨_, rfl, ?_⟩)))⟩))
          rw [show decide (("pour" : Str) ≠ "draw") = true by decide +kernel]
          refine iteT (i_dputL (i_op ⟨_, rfl, ⟨_, rfl, 2, rfl, r_ixT hT9 rfl ⟨pd, _, rfl, get_dk (k := .inr y) hpd9 (kv_get LEN2 hyv), ⟨_, rfl, ⟨_, _, rfl, rfl, ⟨_, rfl, ⟨_, rfl, 2, rfl, r_ixT hT9 rfl ⟨pd, _, rfl, .inl ⟨_, .inr y, hpd9, rfl, by rw [kv_len LEN2]; exact Nat.lt_of_le_of_lt h2 (by decide), rfl⟩, ?_⟩⟩⟩⟩⟩⟩⟩⟩))
          rw [kv_put LEN2 nd hyv, ← mov_pour (k := "pour")]
          obtain ⟨sD, hlD, hrD⟩ := put_keep (o := .dK (kvL vn (movedL vn (levAt vn ((dyedS st its).take i)) ["pour", x, y] dd))) npd0 sC hl hrs
          dsimp only
          refine i_drop ⟨_, rfl, .inl ⟨rfl, _, SqL.of hlD⟩, i_cons (i_var rfl (i_nil ⟨l, rs.map V.ref, _, rfl, rfl, hlD, ?_, ?_⟩))⟩
          · rw [List.length_map, lrs]
            exact small1000 (by omega)
          · obtain ⟨z1, z2, z3⟩ := lev_end hxs nl (s5.trans sD) hlD hrD upd_same
            exact ⟨rs ++ [pd], _, _, _, rfl, z1, z2, z3⟩
      · obtain ⟨rs, x3, x4, x5, rfl, s5, hl, hrs⟩ := hP
        exact i_ret (i_var rfl (q l rs H5 s5 nl hl hrs))
end
end K10
set_option Elab.async false
set_option linter.all false
set_option maxRecDepth 100000
set_option maxHeartbeats 4000000
namespace K10
open PySem PySem.Spec PyProof.Rows L2 Er
section
variable {P : Program} {w : World} {K : PySem.W.Frag} {mg : Str → Option Value} {base : Heap} {f : Addr} {fd : FuncData}
theorem sc_spots : FnScope ["own", "found", "at", "name"] ["own"] (defScope s_spots) := ⟨rfl, rfl, rfl, by decide +kernel, rfl, by decide +kernel, by decide +kernel⟩
theorem ok_spots (T : Tx K mg) (F : FunD K "_law_spots" "_law_spots" (defArgs s_spots) (defBody s_spots) (defScope s_spots) [] [] f fd) : FnOk P w K mg base CX0 1 f fd ["own"] (spSpots K) := by
  refine F.ok sc_spots (fun vs H Q E h => ?_) (fun cdv A outer s H vs Q E hr h => ?_)
  · obtain ⟨o, vn, st, sa, rfl, _⟩ := h
    rfl
  · obtain ⟨o, vn, st, sa, rfl, ⟨a, b, c, us, ws, hO, hA0, hB, hS, hC, hW⟩, v6, l14, q⟩ := h
    refine ⟨_, PSs.nox (pss_cons (ps_setLc (i := 1) (own := [("at", 2)]) (g := gName 2) (tt := tYes) rfl sc_spots.nd rfl rfl (sw_true rfl rfl rfl (by decide +kernel)) (pi_range1 (by rfl) (T.fr "range" (mem_at 12 rfl)) (pa_cons (pe_callB call_len_seq (by rfl) (T.fr "len" (mem_at 8 rfl)) PySem.boot_len (pa_cons (pe_dget (hu_of hr) (pv 0) pe_str (fun _ _ => rfl)) pa_nil)) pa_nil)) (blkOk_by (N := ["own", "found", "at", "name"]) (sc := defScope s_spots) (by decide +kernel)) (fun _ _ _ _ _ => pg_name (i := 2) sc_spots.nd rfl (Or.inl rfl)) (fun _ _ _ _ _ => pts_nil) (fun _ _ _ _ _ => (pe_tup (pa_cons pe_str (pa_cons (pv 2) pa_nil)))))
      (pss_cons (ps_for PassesOwn.never rfl (pi_range2 (by rfl) (T.fr "range" (mem_at 12 rfl)) (pa_cons pe_int (pa_cons (pe_op op_add (pe_callB call_len_seq (by rfl) (T.fr "len" (mem_at 8 rfl)) PySem.boot_len (pa_cons (pe_dget (hu_of hr) (pv 0) pe_str (fun _ _ => rfl)) pa_nil)) pe_int) pa_nil))) (pg_name (i := 2) sc_spots.nd rfl (Or.inr rfl))
        (pss_one (ps_expr (pe_bm PySem.F.plainAttrs_list PySem.F.slot_list_extend PySem.F.type_list_extend mt_extend (pv 1) (pa_cons (pe_lc (own := [("name", 3)]) (g := gName 3) (tt := tYes) rfl sc_spots.nd (pi_list (pe_dget (hu_of hr) (pv 0) pe_str (fun _ _ => rfl))) (blkOk_by (N := ["own", "found", "at", "name"]) (sc := defScope s_spots) (by decide +kernel)) (fun _ _ _ _ _ => pg_name (i := 3) sc_spots.nd rfl (Or.inl rfl)) (fun _ _ _ _ _ => pts_nil) (fun _ _ _ _ _ => (pe_tup (pa_cons pe_str (pa_cons (pv 3) (pa_cons (pv 2) pa_nil)))))) pa_nil)))))
      (pss_one (ps_ret (pv 1))))), ?_⟩
    have lus := hS.1
    refine i_set (i_lc (i_cons (i_cb (i_cons (i_dget (i_var rfl (i_c ⟨o, _, rfl, get_dk (k := .inr "steps") hO (own_b a b c), i_nil ⟨b, us, rfl, .inl hB, i_nil ⟨_, rfl, by omega, by omega, fun Dl nDl => ?_⟩⟩⟩)))))))
    refine lr_range (n := st.length) (fun i H' => Same H H' ∧ ∃ acc, H' Dl = some (.lst acc) ∧ StepsAt K H' acc ((List.range i).map byT)) ?_ (fun i H' hi hI => ?_) (fun H' hI => ?_) |> cast (by rw [lus]; rfl)
    · exact ⟨same_new nDl, [], upd_same, StepsAt.nil⟩
    · obtain ⟨s1, acc, eD, hA⟩ := hI
      refine ⟨rfl, i_yes (iteT (i_tup (i_cons (i_c (i_cons (i_var rfl (i_nil ⟨by show 2 ≤ sizeLine; decide, fun pt npt => ?_⟩)))))))⟩
      have s2 := same_new (o := .tup [.str "by", .int (0 + (i : Int))]) npt
      have eD2 := s2 _ _ eD
      have la := hA.1
      rw [List.length_map, List.length_range] at la
      have k := (KeepT.of s2).trans (KeepT.put (K := K) (o := .lst (acc ++ [.ref pt])) eD2)
      refine ⟨acc, eD2, by rw [la]; exact small1000 (by omega), same_mut (s1.trans s2) nDl, acc ++ [.ref pt], upd_same, ?_⟩
      rw [List.range_succ, List.map_append]
      refine (hA.keep k).snoc (z := byT i) ((KeepT.put (K := K) eD2) _ _ (SqT.of ?_))
      rw [upd_same, Int.zero_add]
      rfl
    obtain ⟨s1, acc, eD, hA⟩ := hI
    refine i_for (i_cons (i_c (i_cons (i_op (i_cb (i_cons (i_dget (i_var rfl (i_c ⟨o, _, rfl, get_dk (k := .inr "steps") (s1 _ _ hO) (own_b a b c), i_nil ⟨b, us, rfl, .inl (s1.seq hB), i_c ⟨_, _, rfl, rfl, i_nil ⟨1, _, rfl, ⟨by omega, by omega, by omega, by omega⟩, ?_⟩⟩⟩⟩)))))))))
    have en : (((us.length : Nat) : Int) + 1 - 1).toNat = st.length := by omega
    dsimp only
    rw [en]
    refine fr_range (n := st.length) (fun i σ H1 => ∃ r2 acc2, σ = [some (.ref o), some (.ref Dl), r2, none] ∧ Same H H1 ∧ H1 Dl = some (.lst acc2) ∧ StepsAt K H1 acc2 (spotsB st.length ++ spotsI vn i)) ?_ (fun i σ H1 hi hI => ?_) (fun σ H1 hI => ?_)
    · refine ⟨_, acc, rfl, s1, eD, ?_⟩
      rw [show spotsI vn 0 = [] from rfl, List.append_nil]
      exact hA
    · obtain ⟨r2, acc2, rfl, s2, e2, hA2⟩ := hI
      refine i_drop ⟨_, rfl, .inl ⟨rfl, _, SqL.of e2⟩, i_cons (i_lc ⟨_, rfl, o, _, rfl, get_dk (k := .inr "vessels") (s2 _ _ hO) (own_a a b c), a, rfl, ⟨_, s2.seq hA0⟩, fun Dm nDm => ?_⟩)⟩
      have lvn : (sV vn).length = vn.length := sV_len vn
      refine lr_it (walk_list (K := K) (a := a) (xs := sV vn)) (fun j H' => Same H1 H' ∧ ∃ acc, H' Dm = some (.lst acc) ∧ StepsAt K H' acc ((vn.take j).map (inT i))) ?_ (fun j H' _ hP => hP.1.seq (s2.seq hA0)) (fun j v H' H'' hj hP hy => ?_) (fun H' hP => ?_)
      · exact ⟨same_new nDm, [], upd_same, StepsAt.nil⟩
      · obtain ⟨s3, acc, eD3, hA3⟩ := hP
        obtain ⟨rfl, hv⟩ := hy
        rw [lvn] at hj
        have hv2 : v = .str vn[j] := by
          unfold sV at hv
          rw [List.getElem?_map, List.getElem?_eq_getElem hj] at hv
          exact (Option.some.inj hv).symm
        subst hv2
        refine ⟨rfl, i_yes (iteT (i_tup (i_cons (i_c (i_cons (i_var rfl (i_cons (i_var rfl (i_nil ⟨by show 3 ≤ sizeLine; decide, fun pt npt => ?_⟩)))))))))⟩
        have s4 := same_new (o := .tup [.str "in", .str vn[j], .int (1 + (i : Int))]) npt
        have eD4 := s4 _ _ eD3
        have la := hA3.1
        rw [List.length_map, List.length_take] at la
        have k := (KeepT.of s4).trans (KeepT.put (K := K) (o := .lst (acc ++ [.ref pt])) eD4)
        refine ⟨acc, eD4, small1000 (by omega), same_mut (s3.trans s4) nDm, acc ++ [.ref pt], upd_same, ?_⟩
        have e : (vn.take (j + 1)).map (inT i) = (vn.take j).map (inT i) ++ [inT i vn[j]] := by
          rw [List.take_add_one, List.getElem?_eq_getElem hj, List.map_append]
          rfl
        rw [e]
        refine (hA3.keep k).snoc (z := inT i vn[j]) ((KeepT.put (K := K) eD4) _ _ (SqT.of ?_))
        rw [upd_same, Int.add_comm 1 (i : Int)]
        rfl
      · obtain ⟨s3, acc, eD3, hA3⟩ := hP
        rw [lvn, List.take_length] at hA3
        have e2' := s3 _ _ e2
        refine i_nil ⟨Dl, Dm, acc2, acc, rfl, rfl, e2', eD3, ?_, ?_⟩
        · have l1 := hA2.1
          have l2 := hA3.1
          rw [List.length_append] at l1
          rw [List.length_map] at l2
          have l3 : (spotsB st.length).length = st.length := by
            unfold spotsB
            rw [List.length_map, List.length_range]
          have l4 := spotsI_len vn i
          have l5 : i * vn.length ≤ 14 * 6 := Nat.mul_le_mul (by omega) v6
          exact Nat.le_trans (by omega : acc2.length + acc.length ≤ 1000) (by decide)
        · refine ⟨_, acc2 ++ acc, rfl, same_mut (s2.trans s3) nDl, upd_same, ?_⟩
          have e : spotsI vn (i + 1) = spotsI vn i ++ vn.map (inT i) := by
            unfold spotsI
            rw [List.range_succ, List.flatMap_append, List.flatMap_singleton]
          rw [e, ← List.append_assoc]
          have k := (KeepT.of (K := K) s3).trans (KeepT.put (K := K) (o := .lst (acc2 ++ acc)) e2')
          exact StepsAt.app (hA2.keep k) (hA3.keep (KeepT.put e2'))
    · obtain ⟨r2, acc2, rfl, s2, e2, hA2⟩ := hI
      exact i_ret (i_var rfl (q Dl acc2 H1 s2 nDl e2 hA2))
theorem sc_size : FnScope ["own", "place"] ["own", "place"] (defScope s_size) := ⟨rfl, rfl, rfl, by decide +kernel, rfl, by decide +kernel, by decide +kernel⟩
theorem ok_size (T : Tx K mg) (F : FunD K "_law_size" "_law_size" (defArgs s_size) (defBody s_size) (defScope s_size) [] [] f fd) {fdGLe : FuncData} (GLe : FnOk P w K mg base CX0 1 (He.ga K "_law_levels") fdGLe ["own"] (spLevels K)) (GLeF : FnT K "_law_levels" s_levels fdGLe) (GLeB : Binds K fdGLe ["own"] []) : FnOk P w K mg base CX0 2 f fd ["own", "place"] (spSize K) := by
  refine F.ok sc_size (fun vs H Q E h => ?_) (fun cdv A outer s H vs Q E hr h => ?_)
  · obtain ⟨o, t, vn, st, sa, wd, m, rfl, _⟩ := h
    rfl
  · obtain ⟨o, t, vn, st, sa, wd, m, rfl, hOw, nd, hst, l14, v6, hT, hsp, q⟩ := h
    have hr_GLe := hr
    refine ⟨_, PSs.nox (pss_one (ps_ret (pe_ifExp (pt_cmpR op_eq (pe_ix ix_tup (pv 1) pe_int (fun _ _ => rfl)) pe_str (nomark _)) (pe_ix ix_tup (pe_ix ix_list (pe_dget (hu_of hr) (pv 0) pe_str (fun _ _ => rfl)) (pe_ix ix_tup (pv 1) pe_int (fun _ _ => rfl)) (fun _ _ => rfl)) (pe_un un_neg pe_int) (fun _ _ => rfl)) (pe_dget (hu_of hr) (pe_ix ix_list (pe_call GLe hr_GLe (by rfl) (T.gd "_law_levels" (mem_at 45 rfl)) GLeF.kp GLeB .nil pass0 (pa_cons (pv 0) pa_nil)) (pe_ix ix_tup (pv 1) pe_int (fun _ _ => rfl)) (fun _ _ => rfl)) (pe_ix ix_tup (pv 1) pe_int (fun _ _ => rfl)) (fun _ _ => rfl))))), ?_⟩
    have hOw0 := hOw
    obtain ⟨a, b, c, us, ws, hO, hA, hB, hS, hC, hW⟩ := hOw
    rcases spot_cases hsp with ⟨rfl, m0, m1⟩ | ⟨x, hx, rfl, m0, m1⟩
    · obtain ⟨k, rfl⟩ : ∃ k : Nat, m = (k : Int) := ⟨m.toNat, by omega⟩
      have hk : k < st.length := by omega
      have hs := List.getElem?_eq_getElem hk
      obtain ⟨r, hr1, hr2⟩ := hS.2 k _ hs
      obtain ⟨⟨n, en, _⟩, _⟩ := step_cases (hst _ (List.getElem_mem hk))
      have eS : sizeS vn st ["by"] (k : Int) = n := by
        show ((st[(k : Int).toNat]?.getD ([], none)).2).getD 0 = n
        rw [Int.toNat_natCast, hs]
        show (st[k].2).getD 0 = n
        rw [en]
        rfl
      rw [eS] at q
      have hr3 : SqT K H r (sV st[k].1 ++ [.int n]) := by
        rw [en] at hr2
        exact hr2
      refine i_ret (i_ifx (i_test (i_op ⟨_, rfl, i_c (r_ixT hT rfl (i_c (r_eqS ⟨_, rfl, ?_⟩)))⟩)))
      rw [decide_eq_true rfl]
      exact iteT (i_op (i_op (i_dget (i_var rfl (i_c ⟨o, _, rfl, get_dk (k := .inr "steps") hO (own_b a b c), ⟨_, rfl, i_c (r_ixT hT rfl ⟨b, us, (k : Int), .ref r, rfl, rfl, hB, atI_nat hr1, ⟨1, rfl, r_ixT hr3 (at_last _ _) (q _ (Same.refl _))⟩⟩)⟩⟩)))))
    · obtain ⟨k, rfl⟩ : ∃ k : Nat, m = (k : Int) := ⟨m.toNat, by omega⟩
      have hk : k ≤ st.length := by omega
      have eS : sizeS vn st ["in", x] (k : Int) = (levAt vn (st.take k)).getD (vn.idxOf x) 0 := rfl
      rw [eS] at q
      refine i_ret (i_ifx (i_test (i_op ⟨_, rfl, i_c (r_ixT hT rfl (i_c (r_eqS ⟨_, rfl, ?_⟩)))⟩)))
      rw [decide_eq_false (show ¬ ("in" : Str) = ("by" : Str) by decide +kernel)]
      refine iteF (i_dget (i_op (i_call (i_cons (i_var rfl (i_nil ⟨o, vn, st, sa, rfl, hOw0, nd, hst, by omega, by omega, fun pl rs H2 s2 nl el hp => ?_⟩))))))
      obtain ⟨rl, hrl, hrd⟩ := pr_at (i := k) (y := levAt vn (st.take k)) hp (by
        unfold levsOf
        rw [List.getElem?_map, List.getElem?_range (by omega)]
        rfl)
      have hat : atI (rs.map V.ref) (k : Int) = some (.ref rl) := atI_nat (by rw [List.getElem?_map, hrl]; rfl)
      exact ⟨_, rfl, i_c (r_ixT (sameT s2 hT) rfl ⟨pl, rs.map V.ref, (k : Int), .ref rl, rfl, rfl, SqL.of el, hat, ⟨_, rfl, i_c (r_ixT (sameT s2 hT) rfl ⟨rl, _, rfl, get_dk (k := .inr x) hrd (kv_get levAt_len hx), q _ s2⟩)⟩⟩)⟩
theorem sc_law_dye : FnScope ["own", "its", "place"] ["own", "its", "place"] (defScope s_law_dye) := ⟨rfl, rfl, rfl, by decide +kernel, rfl, by decide +kernel, by decide +kernel⟩
theorem ok_law_dye (T : Tx K mg) (F : FunD K "_law_dye" "_law_dye" (defArgs s_law_dye) (defBody s_law_dye) (defScope s_law_dye) [] [] f fd) {fdGDy : FuncData} (GDy : FnOk P w K mg base CX0 1 (He.ga K "_law_dyes") fdGDy ["own", "its"] (spDyes K)) (GDyF : FnT K "_law_dyes" s_dyes fdGDy) (GDyB : Binds K fdGDy ["own", "its"] []) : FnOk P w K mg base CX0 2 f fd ["own", "its", "place"] (spDye K) := by
  refine F.ok sc_law_dye (fun vs H Q E h => ?_) (fun cdv A outer s H vs Q E hr h => ?_)
  · obtain ⟨o, ti, t, vn, st, sa, its, wd, m, rfl, _⟩ := h
    rfl
  · obtain ⟨o, ti, t, vn, st, sa, its, wd, m, rfl, hOw, hI, lI, nd, hst, l14, v6, hT, hsp, q⟩ := h
    have hr_GDy := hr
    refine ⟨_, PSs.nox (pss_cons (ps_if (pt_cmpR op_eq (pe_ix ix_tup (pv 2) pe_int (fun _ _ => rfl)) pe_str (nomark _))
        (pss_one (ps_ret (pe_ix ix_tup (pv 1) (pe_ix ix_tup (pv 2) pe_int (fun _ _ => rfl)) (fun _ _ => rfl))))
        pss_nil)
      (pss_one (ps_ret (pe_dget (hu_of hr) (pe_ix ix_list (pe_call GDy hr_GDy (by rfl) (T.gd "_law_dyes" (mem_at 53 rfl)) GDyF.kp GDyB .nil pass0 (pa_cons (pv 0) (pa_cons (pv 1) pa_nil))) (pe_ix ix_tup (pv 2) pe_int (fun _ _ => rfl)) (fun _ _ => rfl)) (pe_ix ix_tup (pv 2) pe_int (fun _ _ => rfl)) (fun _ _ => rfl))))), ?_⟩
    rcases spot_cases hsp with ⟨rfl, m0, m1⟩ | ⟨x, hx, rfl, m0, m1⟩
    · obtain ⟨k, rfl⟩ : ∃ k : Nat, m = (k : Int) := ⟨m.toNat, by omega⟩
      have hk : k < its.length := by omega
      have hs := List.getElem?_eq_getElem hk
      have eS : dyeS vn st its ["by"] (k : Int) = its[k] := by
        show its.getD (k : Int).toNat 0 = its[k]
        rw [Int.toNat_natCast, List.getD_eq_getElem?_getD, hs]
        rfl
      rw [eS] at q
      refine i_if0 (i_test (i_op ⟨_, rfl, i_c (r_ixT hT rfl (i_c (r_eqS ⟨_, rfl, ?_⟩)))⟩))
      rw [decide_eq_true rfl]
      have hat : atI (iV its) (k : Int) = some (.int its[k]) := atI_nat (by
        unfold iV
        rw [List.getElem?_map, hs]
        rfl)
      exact iteT (i_ret (i_op ⟨_, rfl, i_op ⟨_, rfl, i_c (r_ixT hT rfl (r_ixT hI hat (q _ (Same.refl _))))⟩⟩))
    · obtain ⟨k, rfl⟩ : ∃ k : Nat, m = (k : Int) := ⟨m.toNat, by omega⟩
      have hk : k ≤ st.length := by omega
      have eS : dyeS vn st its ["in", x] (k : Int) = (levAt vn ((dyedS st its).take k)).getD (vn.idxOf x) 0 := rfl
      rw [eS] at q
      refine i_if0 (i_test (i_op ⟨_, rfl, i_c (r_ixT hT rfl (i_c (r_eqS ⟨_, rfl, ?_⟩)))⟩))
      rw [decide_eq_false (show ¬ ("in" : Str) = ("by" : Str) by decide +kernel)]
      refine iteF (i_ret (i_dget (i_op (i_call (i_cons (i_var rfl (i_cons (i_var rfl (i_nil ⟨o, ti, vn, st, sa, its, rfl, hOw, hI, nd, hst, by omega, by omega, fun pl rs H2 s2 nl el hp => ?_⟩)))))))))
      have dl : (dyedS st its).length = st.length := by rw [dyedS_len, lI, Nat.min_self]
      obtain ⟨rl, hrl, hrd⟩ := pr_at (i := k) (y := levAt vn ((dyedS st its).take k)) hp (by
        unfold levsOf
        rw [List.getElem?_map, List.getElem?_range (by omega)]
        rfl)
      have hat : atI (rs.map V.ref) (k : Int) = some (.ref rl) := atI_nat (by rw [List.getElem?_map, hrl]; rfl)
      exact ⟨_, rfl, i_c (r_ixT (sameT s2 hT) rfl ⟨pl, rs.map V.ref, (k : Int), .ref rl, rfl, rfl, SqL.of el, hat, ⟨_, rfl, i_c (r_ixT (sameT s2 hT) rfl ⟨rl, _, rfl, get_dk (k := .inr x) hrd (kv_get levAt_len hx), q _ s2⟩)⟩⟩)⟩
theorem sc_choices : FnScope ["deed", "dyed", "level", "pure"] ["deed", "dyed", "level"] (defScope s_choices) := ⟨rfl, rfl, rfl, by decide +kernel, rfl, by decide +kernel, by decide +kernel⟩
theorem ok_choices (T : Tx K mg) (F : FunD K "_law_choices" "_law_choices" (defArgs s_choices) (defBody s_choices) (defScope s_choices) [] [] f fd) : FnOk P w K mg base CX0 1 f fd ["deed", "dyed", "level"] (spChoices K) := by
  refine F.ok sc_choices (fun vs H Q E h => ?_) (fun cdv A outer s H vs Q E hr h => ?_)
  · obtain ⟨t, dd, ld, vn, wd, n, L, D, rfl, _⟩ := h
    rfl
  · obtain ⟨t, dd, ld, vn, wd, n, L, D, rfl, hT, hD, hL, lL, lD, hb, un, low, q⟩ := h
    refine ⟨_, PSs.nox (pss_cons (ps_if (pt_cmpR op_in_seq (pe_ix ix_tup (pv 0) pe_int (fun _ _ => rfl)) (pe_tup (pa_cons pe_str (pa_cons pe_str pa_nil))) (by rfl))
        (pss_one (ps_ret (pe_lst (pa_cons (pe_ifExp (pt_cmpR op_eq (pe_ix ix_tup (pv 0) pe_int (fun _ _ => rfl)) pe_str (nomark _)) (pe_ix ix_tup (pv 0) (pe_un un_neg pe_int) (fun _ _ => rfl)) pe_int) pa_nil))))
        pss_nil)
      (pss_cons (ps_set (i := 3) sc_choices.nd rfl (Or.inl rfl) (pe_op op_sub (pe_dget (hu_of hr) (pv 2) (pe_ix ix_tup (pv 0) pe_int (fun _ _ => rfl)) (fun _ _ => rfl)) (pe_dget (hu_of hr) (pv 1) (pe_ix ix_tup (pv 0) pe_int (fun _ _ => rfl)) (fun _ _ => rfl))))
      (pss_one (ps_ret (pe_listRg rfl (by rfl) (T.fr "list" (mem_at 9 rfl)) (prg_2 (by rfl) (T.fr "range" (mem_at 12 rfl)) (pe_callB (call_max2 rfl) (by rfl) (T.fr "max" (mem_at 10 rfl)) (by decide +kernel) (pa_cons pe_int (pa_cons (pe_op op_sub (pe_ix ix_tup (pv 0) (pe_un un_neg pe_int) (fun _ _ => rfl)) (pv 3)) pa_nil))) (pe_op op_add (pe_callB (call_min2 rfl) (by rfl) (T.fr "min" (mem_at 11 rfl)) (by decide +kernel) (pa_cons (pe_callTy call_int1 (by rfl) (T.fr "int" (mem_at 6 rfl)) (by decide +kernel) (pa_cons (pe_ix ix_tup (pv 0) (pe_un un_neg pe_int) (fun _ _ => rfl)) pa_nil)) (pa_cons (pe_callTy call_int1 (by rfl) (T.fr "int" (mem_at 6 rfl)) (by decide +kernel) (pa_cons (pe_dget (hu_of hr) (pv 1) (pe_ix ix_tup (pv 0) pe_int (fun _ _ => rfl)) (fun _ _ => rfl)) pa_nil)) pa_nil))) pe_int))))))), ?_⟩
    have fresh : ∀ (cs : List Int) (H2 : Hp) (p : Addr), Same H H2 → H2 p = none → 0 < cs.length → cs.length ≤ 100 → (∀ c ∈ cs, ChOk vn wd n L D c) → Q (.ref p) (upd H2 p (.lst (iV cs))) := fun cs H2 p s2 np l0 l1 ok => q p cs _ (s2.trans (same_new np)) (none_back s2 np) upd_same l0 l1 ok
    obtain ⟨⟨n', e, n1, n2⟩, hc⟩ := step_cases hb
    cases e
    have nk : ∀ a, takenS [("fill" : Str), a] = some a → False := fun a z => by
      rw [takenS_2, if_neg (by decide +kernel)] at z
      cases z
    rcases hc with ⟨a, ha, rfl | rfl | rfl⟩ | ⟨a, b, ha, hb2, hab, rfl⟩
    · refine i_if0 (i_test (i_op ⟨_, rfl, i_c (r_ixT hT rfl (i_tup2 fun pt npt => r_in (.inr (SqT.of upd_same)) rfl rfl (inV_sV _ ["fill", "dye"]) ⟨_, rfl, ?_⟩))⟩))
      rw [show decide (("fill" : Str) ∈ (["fill", "dye"] : List Str)) = true by decide +kernel]
      have s1 := same_new (o := .tup [.str "fill", .str "dye"]) npt
      refine iteT (i_ret (i_lst (i_cons (i_ifx (i_test (i_op ⟨_, rfl, i_c (r_ixT (sameT s1 hT) rfl (i_c (r_eqS ⟨_, rfl, ?_⟩)))⟩))))))
      rw [decide_eq_false (show ¬ ("fill" : Str) = ("dye" : Str) by decide +kernel)]
      refine iteF (i_c (i_nil ⟨by show 1 ≤ sizeLine; decide, fun p np => fresh [0] _ p s1 np (by decide) (by decide) fun c hc => ?_⟩))
      rw [List.mem_singleton.mp hc]
      refine ⟨fun _ => (if_pos rfl).symm, Int.le_refl _, by omega, fun x hx => ?_⟩
      rw [takenS_2, if_neg (by decide +kernel)] at hx
      cases hx
    · refine i_if0 (i_test (i_op ⟨_, rfl, i_c (r_ixT hT rfl (i_tup2 fun pt npt => r_in (.inr (SqT.of upd_same)) rfl rfl (inV_sV _ ["fill", "dye"]) ⟨_, rfl, ?_⟩))⟩))
      rw [show decide (("dye" : Str) ∈ (["fill", "dye"] : List Str)) = true by decide +kernel]
      have s1 := same_new (o := .tup [.str "fill", .str "dye"]) npt
      refine iteT (i_ret (i_lst (i_cons (i_ifx (i_test (i_op ⟨_, rfl, i_c (r_ixT (sameT s1 hT) rfl (i_c (r_eqS ⟨_, rfl, ?_⟩)))⟩))))))
      rw [decide_eq_true rfl]
      refine iteT ⟨_, rfl, 1, rfl, r_ixT (sameT s1 hT) rfl (i_nil ⟨by show 1 ≤ sizeLine; decide, fun p np => fresh [n] _ p s1 np (by show 0 < 1; decide) (by show 1 ≤ 100; decide) fun c hc => ?_⟩)⟩
      rw [List.mem_singleton.mp hc]
      refine ⟨fun _ => (if_neg (show ¬ ("dye" : Str) = "fill" by decide +kernel)).symm, by omega, Int.le_refl _, fun x hx => ?_⟩
      rw [takenS_2, if_neg (by decide +kernel)] at hx
      cases hx
    · have tk := low a (by rw [takenS_2, if_pos rfl])
      have ub := un (vn.idxOf a)
      refine i_if0 (i_test (i_op ⟨_, rfl, i_c (r_ixT hT rfl (i_tup2 fun pt npt => r_in (.inr (SqT.of upd_same)) rfl rfl (inV_sV _ ["fill", "dye"]) ⟨_, rfl, ?_⟩))⟩))
      rw [show decide (("draw" : Str) ∈ (["fill", "dye"] : List Str)) = false by decide +kernel]
      have s1 := same_new (o := .tup [.str "fill", .str "dye"]) npt
      have hT1 := sameT s1 hT
      have hL1 := s1 _ _ hL
      have hD1 := s1 _ _ hD
      change SqT K (upd H pt (.tup [.str "fill", .str "dye"])) t _ at hT1
      change (if false = true then _ else tSeq _ _ _ _ (upd H pt (.tup [.str "fill", .str "dye"])))
      generalize upd H pt (.tup [.str "fill", .str "dye"]) = H1 at s1 hT1 hL1 hD1 ⊢
      refine iteF (i_set (i_op (i_dget ⟨_, rfl, ⟨_, rfl, i_c (r_ixT hT1 rfl ⟨ld, _, rfl, get_dk (k := .inr a) hL1 (kv_get lL ha), i_dget ⟨_, rfl, ⟨_, rfl, i_c (r_ixT hT1 rfl ⟨dd, _, rfl, get_dk (k := .inr a) hD1 (kv_get lD ha), ⟨_, _, rfl, rfl, ?_⟩⟩)⟩⟩⟩)⟩⟩)))
      generalize elv : L.getD (vn.idxOf a) 0 = lv at tk ub ⊢
      generalize edv : D.getD (vn.idxOf a) 0 = dv at tk ub ⊢
      obtain ⟨lo, elo, lo0, lo1, lo2, lo3⟩ : ∃ lo : Int, (if n - (lv - dv) > 0 then n - (lv - dv) else 0) = lo ∧ 0 ≤ lo ∧ n - (lv - dv) ≤ lo ∧ lo ≤ n ∧ lo ≤ dv := by
        refine ⟨_, rfl, ?_⟩
        split <;> omega
      obtain ⟨hi, ehi, hi1, hi2, hi3⟩ : ∃ hi : Int, (if dv < n then dv else n) = hi ∧ hi ≤ n ∧ hi ≤ dv ∧ lo ≤ hi := by
        refine ⟨_, rfl, ?_⟩
        split <;> omega
      refine i_ret (i_lstRg (i_rg2 (i_cb (i_cons (i_c (i_cons (i_op ⟨_, rfl, 1, rfl, r_ixT hT1 rfl (i_var rfl ⟨_, _, rfl, rfl, i_nil ⟨_, _, rfl, ?_⟩⟩)⟩)))))))
      refine i_op (i_cb (i_cons (i_cb (i_cons ⟨_, rfl, 1, rfl, r_ixT hT1 rfl (i_nil (.inl ⟨_, rfl, i_cons (i_cb (i_cons (i_dget ⟨_, rfl, ⟨_, rfl, i_c (r_ixT hT1 rfl ⟨dd, _, rfl, get_dk (k := .inr a) hD1 (kv_get lD ha), i_nil (.inl ⟨_, rfl, i_nil ⟨_, _, rfl, i_c ⟨_, _, rfl, rfl, ⟨_, _, rfl, rfl, ?_⟩⟩⟩⟩)⟩)⟩⟩)))⟩))⟩))))
      dsimp only
      rw [edv, elo, ehi]
      refine ⟨⟨by omega, by omega, by omega, by omega, by omega⟩, fun p np => ?_⟩
      rw [rg_int]
      refine fresh _ _ p s1 np ?_ ?_ fun c hc => ?_
      · rw [List.length_map, List.length_range]
        omega
      · rw [List.length_map, List.length_range]
        omega
      obtain ⟨i, hi4, rfl⟩ := List.mem_map.mp hc
      have hi5 := List.mem_range.mp hi4
      refine ⟨fun z => (by first | (rw [takenS_2, if_pos rfl] at z; cases z) | cases z), by omega, by omega, fun x hx => ?_⟩
      rw [takenS_2, if_pos rfl] at hx
      cases hx
      rw [elv, edv]
      omega
    · have tk := low a rfl
      have ub := un (vn.idxOf a)
      refine i_if0 (i_test (i_op ⟨_, rfl, i_c (r_ixT hT rfl (i_tup2 fun pt npt => r_in (.inr (SqT.of upd_same)) rfl rfl (inV_sV _ ["fill", "dye"]) ⟨_, rfl, ?_⟩))⟩))
      rw [show decide (("pour" : Str) ∈ (["fill", "dye"] : List Str)) = false by decide +kernel]
      have s1 := same_new (o := .tup [.str "fill", .str "dye"]) npt
      have hT1 := sameT s1 hT
      have hL1 := s1 _ _ hL
      have hD1 := s1 _ _ hD
      change SqT K (upd H pt (.tup [.str "fill", .str "dye"])) t _ at hT1
      change (if false = true then _ else tSeq _ _ _ _ (upd H pt (.tup [.str "fill", .str "dye"])))
      generalize upd H pt (.tup [.str "fill", .str "dye"]) = H1 at s1 hT1 hL1 hD1 ⊢
      refine iteF (i_set (i_op (i_dget ⟨_, rfl, ⟨_, rfl, i_c (r_ixT hT1 rfl ⟨ld, _, rfl, get_dk (k := .inr a) hL1 (kv_get lL ha), i_dget ⟨_, rfl, ⟨_, rfl, i_c (r_ixT hT1 rfl ⟨dd, _, rfl, get_dk (k := .inr a) hD1 (kv_get lD ha), ⟨_, _, rfl, rfl, ?_⟩⟩)⟩⟩⟩)⟩⟩)))
      generalize elv : L.getD (vn.idxOf a) 0 = lv at tk ub ⊢
      generalize edv : D.getD (vn.idxOf a) 0 = dv at tk ub ⊢
      obtain ⟨lo, elo, lo0, lo1, lo2, lo3⟩ : ∃ lo : Int, (if n - (lv - dv) > 0 then n - (lv - dv) else 0) = lo ∧ 0 ≤ lo ∧ n - (lv - dv) ≤ lo ∧ lo ≤ n ∧ lo ≤ dv := by
        refine ⟨_, rfl, ?_⟩
        split <;> omega
      obtain ⟨hi, ehi, hi1, hi2, hi3⟩ : ∃ hi : Int, (if dv < n then dv else n) = hi ∧ hi ≤ n ∧ hi ≤ dv ∧ lo ≤ hi := by
        refine ⟨_, rfl, ?_⟩
        split <;> omega
      refine i_ret (i_lstRg (i_rg2 (i_cb (i_cons (i_c (i_cons (i_op ⟨_, rfl, 1, rfl, r_ixT hT1 rfl (i_var rfl ⟨_, _, rfl, rfl, i_nil ⟨_, _, rfl, ?_⟩⟩)⟩)))))))
      refine i_op (i_cb (i_cons (i_cb (i_cons ⟨_, rfl, 1, rfl, r_ixT hT1 rfl (i_nil (.inl ⟨_, rfl, i_cons (i_cb (i_cons (i_dget ⟨_, rfl, ⟨_, rfl, i_c (r_ixT hT1 rfl ⟨dd, _, rfl, get_dk (k := .inr a) hD1 (kv_get lD ha), i_nil (.inl ⟨_, rfl, i_nil ⟨_, _, rfl, i_c ⟨_, _, rfl, rfl, ⟨_, _, rfl, rfl, ?_⟩⟩⟩⟩)⟩)⟩⟩)))⟩))⟩))))
      dsimp only
      rw [edv, elo, ehi]
      refine ⟨⟨by omega, by omega, by omega, by omega, by omega⟩, fun p np => ?_⟩
      rw [rg_int]
      refine fresh _ _ p s1 np ?_ ?_ fun c hc => ?_
      · rw [List.length_map, List.length_range]
        omega
      · rw [List.length_map, List.length_range]
        omega
      obtain ⟨i, hi4, rfl⟩ := List.mem_map.mp hc
      have hi5 := List.mem_range.mp hi4
      refine ⟨fun z => (by first | (rw [takenS_2, if_pos rfl] at z; cases z) | cases z), by omega, by omega, fun x hx => ?_⟩
      cases hx
      rw [elv, edv]
      omega
end
end K10
set_option Elab.async false
set_option linter.all false
set_option maxRecDepth 100000
set_option maxHeartbeats 4000000
namespace K10
open PySem PySem.Spec PyProof.Rows L2 Er
section
variable {P : Program} {w : World} {K : PySem.W.Frag} {mg : Str → Option Value} {base : Heap} {f : Addr} {fd : FuncData}
theorem sc_mixed : FnScope ["pot", "own", "found", "dyed", "levels", "at", "deed"] ["pot", "own"] (defScope s_mixed) := ⟨rfl, rfl, rfl, by decide +kernel, rfl, by decide +kernel, by decide +kernel⟩
theorem ok_mixed (T : Tx K mg) (F : FunD K "_law_mixed" "_law_mixed" (defArgs s_mixed) (defBody s_mixed) (defScope s_mixed) [] [] f fd) {fdGOf : FuncData} (GOf : FnOk P w K mg base CX0 2 (He.ga K "_law_of") fdGOf ["pot", "some"] (spOf K)) (GOfF : FnT K "_law_of" s_of fdGOf) (GOfB : Binds K fdGOf ["pot", "some"] [])
    {fdGLe : FuncData} (GLe : FnOk P w K mg base CX0 1 (He.ga K "_law_levels") fdGLe ["own"] (spLevels K)) (GLeF : FnT K "_law_levels" s_levels fdGLe) (GLeB : Binds K fdGLe ["own"] [])
    {fdGDy : FuncData} (GDy : FnOk P w K mg base CX0 1 (He.ga K "_law_dyes") fdGDy ["own", "its"] (spDyes K)) (GDyF : FnT K "_law_dyes" s_dyes fdGDy) (GDyB : Binds K fdGDy ["own", "its"] [])
    {fdGCh : FuncData} (GCh : FnOk P w K mg base CX0 1 (He.ga K "_law_choices") fdGCh ["deed", "dyed", "level"] (spChoices K)) (GChF : FnT K "_law_choices" s_choices fdGCh) (GChB : Binds K fdGCh ["deed", "dyed", "level"] []) : FnOk P w K mg base CX0 3 f fd ["pot", "own"] (spMixed K) := by
  refine F.ok sc_mixed (fun vs H Q E h => ?_) (fun cdv A outer s H vs Q E hr h => ?_)
  · obtain ⟨p, o, n, vn, st, sa, rfl, _⟩ := h
    rfl
  · obtain ⟨p, o, n, vn, st, sa, rfl, hOw, hV, hG, l14, hP, hn, q⟩ := h
    have hr_GOf := hr
    have hr_GLe := hr.mono (by decide : 1 ≤ 2)
    have hr_GDy := hr.mono (by decide : 1 ≤ 2)
    have hr_GCh := hr.mono (by decide : 1 ≤ 2)
    refine ⟨_, PSs.nox (pss_cons (ps_par3 (i := 2) (j := 3) (l := 4) (by rfl) sc_mixed.nd rfl rfl rfl (by decide) (by decide) (by decide) rfl rfl rfl (pa_cons (pe_tup pa_nil) (pa_cons (pe_ix ix_list (pe_call GDy hr_GDy (by rfl) (T.gd "_law_dyes" (mem_at 53 rfl)) GDyF.kp GDyB .nil pass0 (pa_cons (pv 1) (pa_cons (pe_tup pa_nil) pa_nil))) pe_int (fun _ _ => rfl)) (pa_cons (pe_call GLe hr_GLe (by rfl) (T.gd "_law_levels" (mem_at 45 rfl)) GLeF.kp GLeB .nil pass0 (pa_cons (pv 1) pa_nil)) pa_nil))) (by rfl))
      (pss_cons (ps_for PassesOwn.never rfl (pi_enum (by rfl) (T.fr "enumerate" (mem_at 5 rfl)) (pa_cons (pe_dget (hu_of hr) (pv 1) pe_str (fun _ _ => rfl)) pa_nil)) (pg_tup rfl (pgs_cons (pg_name (i := 5) sc_mixed.nd rfl (Or.inl rfl)) (pgs_cons (pg_name (i := 6) sc_mixed.nd rfl (Or.inl rfl)) pgs_nil)))
        (pss_cons (ps_set (i := 2) sc_mixed.nd rfl (Or.inl rfl) (pe_op op_catE (pv 2) (pe_tup (pa_cons (pe_call GOf hr_GOf (by rfl) (T.gd "_law_of" (mem_at 42 rfl)) GOfF.kp GOfB .nil pass0 (pa_cons (pv 0) (pa_cons (pe_call GCh hr_GCh (by rfl) (T.gd "_law_choices" (mem_at 55 rfl)) GChF.kp GChB .nil pass0 (pa_cons (pv 6) (pa_cons (pv 3) (pa_cons (pe_ix ix_list (pv 4) (pv 5) (fun _ _ => rfl)) pa_nil)))) pa_nil))) pa_nil))))
        (pss_one (ps_set (i := 3) sc_mixed.nd rfl (Or.inl rfl) (pe_ix ix_list (pe_call GDy hr_GDy (by rfl) (T.gd "_law_dyes" (mem_at 53 rfl)) GDyF.kp GDyB .nil pass0 (pa_cons (pv 1) (pa_cons (pv 2) pa_nil))) (pe_un un_neg pe_int) (fun _ _ => rfl))))))
      (pss_one (ps_ret (pv 2))))), ?_⟩
    obtain ⟨nd, vne, v6, vok⟩ := hV
    have hp0 := pot_some hP
    have hst : ∀ s ∈ st, stepB vn s.2 s.1 = true := (hG.minv v6).1
    have bs : Same (But H p) H := but_same
    have hOw0 := hOw
    obtain ⟨a, b, c, us, ws0, hO, hA, hB, hS, hC, hW⟩ := hOw
    refine i_par3 (i_cons (i_tup (i_nil ⟨by show 0 ≤ sizeLine; decide, fun T0 nT0 => ?_⟩)))
    have s1 := same_new (o := .tup []) nT0
    have hP1 := hP.sameH s1
    have nT0p : T0 ≠ p := fun z => hp0 (z ▸ nT0)
    have eT0 : (But (upd H T0 (.tup [])) p) T0 = some (.tup []) := (del_ne nT0p).trans upd_same
    generalize upd H T0 (.tup []) = H1 at s1 hP1 eT0 ⊢
    refine i_cons (i_op (i_call (i_cons (i_var rfl (i_cons (i_tup (i_nil ⟨by show 0 ≤ sizeLine; decide, fun T1 nT1 => i_nil ⟨o, T1, vn, st, sa, [], rfl, hOw0.same ((bs.trans s1).trans (same_new nT1)), SqT.of upd_same, nd, hst, by omega, by omega, fun pl rs H2 s2' nl el hp => ?_⟩⟩)))))))
    have s2 := (same_new (o := .tup []) nT1).trans s2'
    obtain ⟨rd0, hrd0, hdd0⟩ := pr_at (i := 0) (y := levAt vn (dyedS st [])) hp (by
      unfold levsOf
      rw [List.getElem?_map, List.getElem?_range (by omega)]
      rw [show (dyedS st []) = [] by unfold dyedS; cases st <;> rfl]
      rfl)
    have hP2 := hP1.sameH s2
    refine i_c ⟨pl, rs.map V.ref, 0, .ref rd0, rfl, rfl, SqL.of el, atI_nat (j := 0) (by rw [List.getElem?_map, hrd0]; rfl), ?_⟩
    have t2 := (bs.trans s1).trans s2
    refine i_cons (i_call (i_cons (i_var rfl (i_nil ⟨o, vn, st, sa, rfl, hOw0.same t2, nd, hst, by omega, by omega, fun pv rv H3 s3 nv ev hv => ?_⟩))))
    refine i_nil ⟨_, _, _, rfl, ?_⟩
    have t3 := t2.trans s3
    have hP3 := hP2.sameH s3
    have b3 := (same_but s1 (p := p)).trans ((same_but s2).trans (same_but s3))
    have npv : pv ≠ p := fun z => pot_some hP2 (z ▸ nv)
    refine i_for (i_cons (i_dget (i_var rfl (i_c ⟨o, _, rfl, get_dk (k := .inr "steps") (t3 _ _ hO) (own_b a b c), i_nil ⟨b, us, rfl, t3.seq hB, ?_⟩⟩))))
    refine fr_enum (K := K) (a := b) (xs := us) (fun i σ' H' => ∃ Tf its rd r5 r6, σ' = [some (.ref p), some (.ref o), some (.ref Tf), some (.ref rd), some (.ref pv), r5, r6] ∧ Same (But H p) (But H' p) ∧ Pot H' p (n + i) ∧ SqT K (But H' p) Tf (iV its) ∧ its.length = i ∧ (But H' p) rd = some (.dK (kvL vn (levAt vn (dyedS st its)))) ∧ (But H' p) pv = some (.lst (rv.map V.ref)) ∧ Paired (fun r lv => (But H' p) r = some (.dK (kvL vn lv))) rv (levsOf vn st) ∧ RowOk vn st its) ?_ (fun i σ' H' _ hI => ?_) (fun i y σ' H' hy hI Tp nT => ?_) (fun σ' H' hI => ?_)
    · refine ⟨T0, [], rd0, _, _, rfl, b3, ?_, SqT.of (same_but s3 _ _ (same_but s2 _ _ eT0)), rfl, ?_, (del_ne npv).trans ev, ?_, RowOk.nil⟩
      · rw [show n + ((0 : Nat) : Int) = n by omega]
        exact hP3
      · exact same_but s3 _ _ ((del_ne (pot_neD hP2 hdd0)).trans hdd0)
      · exact pr_mono (fun r lv e => (del_ne (pot_neD hP3 e)).trans e) hv
    · obtain ⟨Tf, its, rd, r5, r6, rfl, b4, _⟩ := hI
      exact but_same.seq (b4.seq hB)
    · obtain ⟨Tf, its, rd, r5, r6, rfl, b4, hP4, hTf, lI, hrd, hpv, hrv, hRow⟩ := hI
      have hi : i < st.length := by
        rw [← hS.1]
        exact (List.getElem?_eq_some_iff.mp hy).1
      have hs0 := List.getElem?_eq_getElem hi
      obtain ⟨wd, m, es, hdk⟩ := hG.at hs0
      rw [es] at hs0
      obtain ⟨r, hr1, hr2⟩ := hS.2 i _ hs0
      cases Option.some.inj (hr1.symm.trans hy)
      have hb := deed_step hdk
      have sT := same_new (o := .tup [.int (i : Nat), .ref r]) nT
      refine ⟨Tp, _, rfl, SqT.of upd_same, rfl, _, _, rfl, ?_⟩
      refine ⟨_, _, rfl, rfl, ?_⟩
      have bT := same_but sT (p := p)
      have hP5 := hP4.sameH sT
      replace hTf := sameT bT hTf
      replace hrd := bT _ _ hrd
      replace hpv := bT _ _ hpv
      replace hrv := pr_mono (fun r lv e => bT _ _ e) hrv
      replace b4 := b4.trans bT
      clear nT
      generalize upd H' Tp (.tup [.int (i : Nat), .ref r]) = H' at sT bT hP5 hTf hrd hpv hrv b4 ⊢
      clear sT bT
      obtain ⟨rl, hrl, hll⟩ := pr_at (i := i) (y := levAt vn (st.take i)) hrv (by
        unfold levsOf
        rw [List.getElem?_map, List.getElem?_range (by omega)]
        rfl)
      have hat : atI (rv.map V.ref) (i : Int) = some (.ref rl) := atI_nat (by rw [List.getElem?_map, hrl]; rfl)
      have ld : (dyedS st its).length = its.length := by
        rw [dyedS_len]
        omega
      have un : Under (levAt vn (st.take i)) (levAt vn (dyedS st its)) := by
        have z := hRow.1 its.length (Nat.le_refl _)
        rw [← ld, List.take_length, ld, lI] at z
        exact z
      have hsI : st[its.length]? = some (wd, some m) := by
        rw [lI]
        exact hs0
      refine i_set (cut_te (R := fun v H6 => ∃ T2 d, v = .ref T2 ∧ Same (But H' p) (But H6 p) ∧ Pot H6 p (n + i + 1) ∧ SqT K (But H6 p) T2 (iV (its ++ [d])) ∧ ChOk vn wd m (levAt vn (st.take i)) (levAt vn (dyedS st its)) d) (fun Q' q' => ?_) (fun v H6 hR => ?_))
      · refine i_op (i_var rfl (i_tup (i_cons (i_call (i_cons (i_var rfl (i_cons (i_call (i_cons (i_var rfl (i_cons (i_var rfl (i_cons (i_op (i_var rfl (i_var rfl ⟨pv, rv.map V.ref, (i : Int), .ref rl, rfl, rfl, SqL.of (but_same _ _ hpv), hat, i_nil ⟨r, rd, rl, vn, wd, m, levAt vn (st.take i), levAt vn (dyedS st its), rfl, sameT but_same (sameT b4 hr2), but_same _ _ hrd, but_same _ _ hll, levAt_len, levAt_len, hb, un, deed_low hdk, fun pc cs H5 s5 nc ec c0 c1 cok => ?_⟩⟩))))))))))))))))
        have npc : pc ≠ p := fun z => pot_some hP5 (z ▸ nc)
        refine i_nil ⟨p, pc, iV cs, n + i, rfl, SqL.of ((del_ne npc).trans ec), by unfold iV; rw [List.length_map]; exact c0, by unfold iV; rw [List.length_map]; omega, hP5.sameH s5, by omega, fun H6 v s6 hP6 hv => ?_⟩
        obtain ⟨d, hd, rfl⟩ := List.mem_map.mp hv
        have b6 := (same_but s5 (p := p)).trans s6
        have hTf6 := sameT b6 hTf
        refine i_nil ⟨by show 1 ≤ sizeLine; decide, fun T2 nT2 => ?_⟩
        have s7 := same_new (o := .tup [.int d]) nT2
        have nT2p : T2 ≠ p := fun z => pot_some hP6 (z ▸ nT2)
        have eT2 : (But (upd H6 T2 (.tup [.int d])) p) T2 = some (.tup [.int d]) := (del_ne nT2p).trans upd_same
        have hP7 := hP6.sameH s7
        refine ⟨Tf, T2, iV its, [.int d], rfl, rfl, sameT but_same (sameT (same_but s7) hTf6), SqT.of upd_same, ?_, fun e => ?_, (fun _ e => nomatch e), fun _ _ T3 nT3 => ?_⟩
        · unfold iV
          rw [List.length_map, lI]
          exact Nat.le_trans (show i + 1 ≤ 15 by omega) (by decide)
        · have e2 : its = [] := by
            unfold iV at e
            exact List.map_eq_nil_iff.mp e
          refine q' _ _ ⟨T2, d, rfl, b6.trans (same_but s7), hP7, ?_, cok d hd⟩
          rw [e2]
          exact SqT.of eT2
        · have s8 := same_new (o := .tup (iV its ++ [.int d])) nT3
          have nT3p : T3 ≠ p := fun z => pot_some hP7 (z ▸ nT3)
          refine q' _ _ ⟨T3, d, rfl, (b6.trans (same_but s7)).trans (same_but s8), hP7.sameH s8, SqT.of ((del_ne nT3p).trans ?_), cok d hd⟩
          rw [upd_same]
          unfold iV
          rw [List.map_append]
          rfl
      · obtain ⟨T2, d, rfl, b6, hP6, hT2, hc⟩ := hR
        have b46 := b4.trans b6
        have hRow2 := hRow.snoc hsI hb (by rw [lI]; exact hc)
        refine i_asg (i_op (i_call (i_cons (i_var rfl (i_cons (i_var rfl (i_nil ⟨o, T2, vn, st, sa, its ++ [d], rfl, hOw0.same (b46.trans but_same), sameT but_same hT2, nd, hst, by omega, by omega, fun pl2 rs2 H7 s7 nl2 el2 hp2 => ?_⟩)))))))
        obtain ⟨rl2, hl1, hl2⟩ := levs_last (K := K) hp2
        have hP7 := hP6.sameH s7
        have b7 := same_but s7 (p := p)
        refine ⟨1, rfl, pl2, rs2.map V.ref, -1, .ref rl2, rfl, rfl, SqL.of el2, hl1, ?_⟩
        refine ⟨T2, its ++ [d], rl2, _, _, rfl, b46.trans b7, ?_, sameT b7 hT2, ?_, (del_ne (pot_neD hP7 hl2)).trans hl2, b7 _ _ (b6 _ _ hpv), pr_mono (fun r lv e => b7 _ _ (b6 _ _ e)) hrv, hRow2⟩
        · rw [show n + ((i + 1 : Nat) : Int) = n + i + 1 by omega]
          exact hP7
        · rw [List.length_append, lI]
          rfl
    · obtain ⟨Tf, its, rd, r5, r6, rfl, b4, hP4, hTf, lI, hrd, hpv, hrv, hRow⟩ := hI
      rw [hS.1] at lI
      have lus := hS.1
      exact i_ret (i_var rfl (q H' Tf its b4 (hP4.up (by omega) (by omega)) hTf lI hRow))
end
end K10
set_option Elab.async false
set_option linter.all false
set_option maxRecDepth 100000
set_option maxHeartbeats 4000000
namespace K10
open PySem PySem.Spec PyProof.Rows L2 Er
section
variable {P : Program} {w : World} {K : PySem.W.Frag} {mg : Str → Option Value} {base : Heap} {f : Addr} {fd : FuncData}
theorem sc_sampled : FnScope ["pot", "own", "top", "far", "found", "its", "moved", "lap", "place", "word", "dyed", "more", "size", "claim_here", "at", "deed"] ["pot", "own", "top", "far"] (defScope s_sampled) := ⟨rfl, rfl, rfl, by decide +kernel, rfl, by decide +kernel, by decide +kernel⟩
theorem ok_sampled (T : Tx K mg) (F : FunD K "_law_sampled" "_law_sampled" (defArgs s_sampled) (defBody s_sampled) (defScope s_sampled) [] [] f fd) {fdGTk : FuncData} (GTk : FnOk P w K mg base CX0 1 (He.ga K "_law_take") fdGTk ["pot", "upto"] (spTake)) (GTkF : FnT K "_law_take" s_take fdGTk) (GTkB : Binds K fdGTk ["pot", "upto"] [])
    {fdGOf : FuncData} (GOf : FnOk P w K mg base CX0 2 (He.ga K "_law_of") fdGOf ["pot", "some"] (spOf K)) (GOfF : FnT K "_law_of" s_of fdGOf) (GOfB : Binds K fdGOf ["pot", "some"] [])
    {fdGMi : FuncData} (GMi : FnOk P w K mg base CX0 3 (He.ga K "_law_mixed") fdGMi ["pot", "own"] (spMixed K)) (GMiF : FnT K "_law_mixed" s_mixed fdGMi) (GMiB : Binds K fdGMi ["pot", "own"] [])
    {fdGSs : FuncData} (GSs : FnOk P w K mg base CX0 1 (He.ga K "_law_spots") fdGSs ["own"] (spSpots K)) (GSsF : FnT K "_law_spots" s_spots fdGSs) (GSsB : Binds K fdGSs ["own"] [])
    {fdGSz : FuncData} (GSz : FnOk P w K mg base CX0 2 (He.ga K "_law_size") fdGSz ["own", "place"] (spSize K)) (GSzF : FnT K "_law_size" s_size fdGSz) (GSzB : Binds K fdGSz ["own", "place"] [])
    {fdGDd : FuncData} (GDd : FnOk P w K mg base CX0 2 (He.ga K "_law_dye") fdGDd ["own", "its", "place"] (spDye K)) (GDdF : FnT K "_law_dye" s_law_dye fdGDd) (GDdB : Binds K fdGDd ["own", "its", "place"] []) : FnOk P w K mg base CX0 4 f fd ["pot", "own", "top", "far"] (spSampled K) := by
  refine F.ok sc_sampled (fun vs H Q E h => ?_) (fun cdv A outer s H vs Q E hr h => ?_)
  · obtain ⟨p, o, t, g, n, pn, vn, st, sa, rfl, _⟩ := h
    rfl
  · obtain ⟨p, o, t, g, n, pn, vn, st, sa, rfl, hOw, hV, hG, l14, t0, t6, g0, g1, hP, hn, q⟩ := h
    have hr_GTk := hr.mono (by decide : 1 ≤ 3)
    have hr_GOf := hr.mono (by decide : 2 ≤ 3)
    have hr_GMi := hr
    have hr_GSs := hr.mono (by decide : 1 ≤ 3)
    have hr_GSz := hr.mono (by decide : 2 ≤ 3)
    have hr_GDd := hr.mono (by decide : 2 ≤ 3)
    refine ⟨_, PSs.nox (pss_cons (ps_par (i := 4) (j := 5) (by rfl) sc_sampled.nd rfl rfl (by decide) rfl rfl (pa_cons (pe_callTy (call_dictP rfl) (by rfl) (T.fr "dict" (mem_at 4 rfl)) (by decide +kernel) (pa_cons (LiI.pe_listItems rfl (pv 1) (by rfl) (T.fr "list" (mem_at 9 rfl)) (by decide +kernel)) pa_nil)) (pa_cons (pe_call GMi hr_GMi (by rfl) (T.gd "_law_mixed" (mem_at 57 rfl)) GMiF.kp GMiB .nil pass0 (pa_cons (pv 0) (pa_cons (pv 1) pa_nil))) pa_nil)) (by rfl))
      (pss_cons (ps_dput (hu_of hr) (pv 4) pe_str (pe_lst pa_nil) (by rfl))
      (pss_cons (ps_setLc (i := 6) (own := [("at", 14), ("deed", 15)]) (g := gTup K 2 (gCons (gName 14) (gCons (gName 15) gNil))) (tt := tTest (tOp (rIn K false) (tOp (rIxT K) (tVar 15) (tC (.int 0))) (tTup (tCons (tC (.str "pour")) (tCons (tC (.str "draw")) tNil))))) rfl sc_sampled.nd rfl rfl (sw_true rfl rfl rfl (by decide +kernel)) (pi_enum (by rfl) (T.fr "enumerate" (mem_at 5 rfl)) (pa_cons (pe_dget (hu_of hr) (pv 1) pe_str (fun _ _ => rfl)) pa_nil)) (blkOk_by (N := ["pot", "own", "top", "far", "found", "its", "moved", "lap", "place", "word", "dyed", "more", "size", "claim_here", "at", "deed"]) (sc := defScope s_sampled) (by decide +kernel)) (fun _ _ _ _ _ => pg_tup rfl (pgs_cons (pg_name (i := 14) sc_sampled.nd rfl (Or.inl rfl)) (pgs_cons (pg_name (i := 15) sc_sampled.nd rfl (Or.inl rfl)) pgs_nil))) (fun _ _ _ _ _ => (pts_one (pt_cmpR op_in_seq (pe_ix ix_tup (pv 15) pe_int (fun _ _ => rfl)) (pe_tup (pa_cons pe_str (pa_cons pe_str pa_nil))) (by rfl)))) (fun _ _ _ _ _ => (pe_tup (pa_cons pe_str (pa_cons (pv 14) pa_nil)))))
      (pss_cons (ps_for PassesOwn.never rfl (pi_range1 (by rfl) (T.fr "range" (mem_at 12 rfl)) (pa_cons (pe_ifExp (pt_cmpR (op_neD hr.units) (pe_dget (hu_of hr) (pv 1) pe_str (fun _ _ => rfl)) (pe_lst pa_nil) (nomark _)) (pe_call GTk hr_GTk (by rfl) (T.gd "_law_take" (mem_at 41 rfl)) GTkF.kp GTkB .nil pass0 (pa_cons (pv 0) (pa_cons (pe_op op_add (pv 2) pe_int) pa_nil))) pe_int) pa_nil)) (pg_name (i := 7) sc_sampled.nd rfl (Or.inl rfl))
        (pss_cons (ps_set (i := 8) sc_sampled.nd rfl (Or.inl rfl) (pe_call GOf hr_GOf (by rfl) (T.gd "_law_of" (mem_at 42 rfl)) GOfF.kp GOfB .nil pass0 (pa_cons (pv 0) (pa_cons (pe_ifExp (PW.pt (pw_and (pt_cmpR (op_neD hr.units) (pv 6) (pe_lst pa_nil) (nomark _)) (pw_and1 (pt_cmpR op_gt (pe_call GTk hr_GTk (by rfl) (T.gd "_law_take" (mem_at 41 rfl)) GTkF.kp GTkB .nil pass0 (pa_cons (pv 0) (pa_cons pe_int pa_nil))) pe_int (nomark _))))) (pv 6) (pe_call GSs hr_GSs (by rfl) (T.gd "_law_spots" (mem_at 51 rfl)) GSsF.kp GSsB .nil pass0 (pa_cons (pv 1) pa_nil))) pa_nil))))
        (pss_cons (ps_set (i := 9) sc_sampled.nd rfl (Or.inl rfl) (pe_call GOf hr_GOf (by rfl) (T.gd "_law_of" (mem_at 42 rfl)) GOfF.kp GOfB .nil pass0 (pa_cons (pv 0) (pa_cons (pe_lst (pa_cons pe_str (pa_cons pe_str (pa_cons pe_str pa_nil)))) pa_nil))))
        (pss_cons (ps_par (i := 10) (j := 11) (by rfl) sc_sampled.nd rfl rfl (by decide) rfl rfl (pa_cons (pe_call GDd hr_GDd (by rfl) (T.gd "_law_dye" (mem_at 54 rfl)) GDdF.kp GDdB .nil pass0 (pa_cons (pv 1) (pa_cons (pv 5) (pa_cons (pv 8) pa_nil)))) (pa_cons (pe_call GOf hr_GOf (by rfl) (T.gd "_law_of" (mem_at 42 rfl)) GOfF.kp GOfB .nil pass0 (pa_cons (pv 0) (pa_cons (pe_lst (pa_cons pe_int (pa_cons pe_int (pa_cons pe_int (pa_cons pe_int pa_nil))))) pa_nil))) pa_nil)) (by rfl))
        (pss_cons (ps_set (i := 12) sc_sampled.nd rfl (Or.inl rfl) (pe_ifExp (pt_cmpR op_eq (pv 9) pe_str (nomark _)) (pv 10) (pe_ifExp (pt_cmpR op_eq (pv 9) pe_str (nomark _)) (pe_callB (call_max2 rfl) (by rfl) (T.fr "max" (mem_at 10 rfl)) (by decide +kernel) (pa_cons pe_int (pa_cons (pe_op op_sub (pv 10) (pv 11)) pa_nil))) (pe_op op_add (pv 10) (pv 11)))))
        (pss_cons (ps_set (i := 12) sc_sampled.nd rfl (Or.inl rfl) (pe_ifExp (PW.pt (pw_and (pt_cmpR op_gt (pv 3) pe_int (nomark _)) (pw_and1 (pt_cmpR op_eq (pe_call GTk hr_GTk (by rfl) (T.gd "_law_take" (mem_at 41 rfl)) GTkF.kp GTkB .nil pass0 (pa_cons (pv 0) (pa_cons (pv 3) pa_nil))) pe_int (nomark _))))) (pe_call GTk hr_GTk (by rfl) (T.gd "_law_take" (mem_at 41 rfl)) GTkF.kp GTkB .nil pass0 (pa_cons (pv 0) (pa_cons (pe_op op_add (pe_call GSz hr_GSz (by rfl) (T.gd "_law_size" (mem_at 52 rfl)) GSzF.kp GSzB .nil pass0 (pa_cons (pv 1) (pa_cons (pv 8) pa_nil))) pe_int) pa_nil))) (pv 12)))
        (pss_cons (ps_set (i := 13) sc_sampled.nd rfl (Or.inl rfl) (pe_tup (pa_cons (pv 9) (pa_cons (pv 12) (pa_cons (pv 8) pa_nil)))))
        (pss_one (ps_if (pt_cmpR (op_notInD (r65 hr)) (pv 13) (pe_dget (hu_of hr) (pv 4) pe_str (fun _ _ => rfl)) (by rfl))
          (pss_one (ps_dput (hu_of hr) (pv 4) pe_str (pe_op op_cat (pe_dget (hu_of hr) (pv 4) pe_str (fun _ _ => rfl)) (pe_lst (pa_cons (pv 13) pa_nil))) (by rfl)))
          pss_nil)))))))))
      (pss_one (ps_ret (pv 4))))))), ?_⟩
    have hV0 := hV
    obtain ⟨nd, vne, v6, vok⟩ := hV
    have hp0 := pot_some hP
    have hst : ∀ s ∈ st, stepB vn s.2 s.1 = true := (hG.minv v6).1
    have wst : ∀ s ∈ st, WOk s.1 := fun s hs => step_wok hV0 (hst s hs)
    have bs : Same (But H p) H := but_same
    have hOw0 := hOw.own
    obtain ⟨b, c, us, ws0, hO, hA, hB, hS, hC, hW⟩ := hOw
    have lus := hS.1
    refine i_par (i_cons (i_cb (i_cons ⟨_, rfl, o, _, rfl, bs _ _ hO, fun H6 p6 ts6 s6 np6 nts np6' hp6 hpr6 => ?_⟩)))
    refine i_nil ⟨p6, ts6, _, rfl, SqL.of hp6, pr_mono (fun t kv z => SqT.of z) hpr6, fun pd npd => ?_⟩
    rw [merge_own]
    have s7 : Same H (upd H6 pd (.dK (ownKV pn b c))) := fun b o e => same_new npd _ _ (s6 _ _ e)
    have npd0 : H pd = none := none_back (fun b o e => s6 b o e) npd
    have npdp : pd ≠ p := fun z => hp0 (z ▸ npd0)
    have ePd : (But (upd H6 pd (.dK (ownKV pn b c))) p) pd = some (.dK (ownKV pn b c)) := (del_ne npdp).trans upd_same
    generalize upd H6 pd (.dK (ownKV pn b c)) = H7 at s7 ePd ⊢
    have b7 := same_but s7 (p := p)
    refine i_cons (i_call (i_cons (i_var rfl (i_cons (i_var rfl (i_nil ⟨p, o, n, vn, st, sa, rfl, hOw0.same b7, hV0, hG, l14, hP.sameH s7, by omega, fun H8 Tm its s8 hP8 hTm lI hR => ?_⟩))))))
    refine i_nil ⟨_, _, rfl, ?_⟩
    have b8 := b7.trans s8
    have ePd8 := s8 _ _ ePd
    refine i_dput (i_lst (i_nil ⟨by show 0 ≤ sizeLine; decide, fun pc npc => ⟨_, rfl, pd, _, rfl, .inl ⟨_, .inr ("samples" : Str), same_new npc _ _ (but_same _ _ ePd8), rfl, by show 3 < _; decide, rfl⟩, ?_⟩⟩))
    rw [put_c]
    have s9 := same_new (o := .lst []) npc
    have npcp : pc ≠ p := fun z => pot_some hP8 (z ▸ npc)
    have ePc9 : (But (upd H8 pc (.lst [])) p) pc = some (.lst []) := (del_ne npcp).trans upd_same
    have b9 := b8.trans (same_but s9)
    have ePd9 := same_but s9 _ _ ePd8 (p := p)
    have hP9 := hP8.sameH s9
    have hTm9 := sameT (same_but s9 (p := p)) hTm
    have br : Bar pd (But (upd H8 pc (.lst [])) p) (But (upd (upd H8 pc (.lst [])) pd (.dK (ownKV pn b pc))) p) := by
      rw [but_upd2 npdp]
      exact Bar.put (Same.refl _)
    have b10 : Same (But H p) (But (upd (upd H8 pc (.lst [])) pd (.dK (ownKV pn b pc))) p) := but_mut npd0 hp0 b9
    have hP10 := hP9.off npdp (o := .dK (ownKV pn b pc))
    have ePd10 : (But (upd (upd H8 pc (.lst [])) pd (.dK (ownKV pn b pc))) p) pd = some (.dK (ownKV pn b pc)) := (del_ne npdp).trans upd_same
    have ePc10 := br.lst ePd9 ePc9
    have hTm10 := br.keep (K := K) ePd9 _ _ hTm9
    generalize upd (upd H8 pc (.lst [])) pd (.dK (ownKV pn b pc)) = H10 at b10 hP10 ePd10 ePc10 hTm10 ⊢
    clear br hTm9 hP9 ePd9 b9 ePc9 s9 npc ePd8 b8 hTm hP8 s8 b7 ePd s7
    have t10 := b10.trans but_same
    refine i_set (i_lc (i_cons (i_dget (i_var rfl (i_c ⟨o, _, rfl, get_dk (k := .inr "steps") (t10 _ _ hO) (own_b pn b c), i_nil ⟨b, us, rfl, SqL.of (t10 _ _ hB), fun Dl nDl => ?_⟩⟩)))))
    refine lr_it (walk_enum (K := K) (a := b) (xs := us)) (fun i H' => Same H10 H' ∧ ∃ acc L, H' Dl = some (.lst acc) ∧ StepsAt K H' acc L ∧ (∀ s ∈ L, s ∈ spotsB st.length) ∧ L.length ≤ i) ?_ (fun i H' _ hI => SqL.of (hI.1 _ _ (t10 _ _ hB))) (fun i x H' H'' hi hI hy => ?_) (fun H11 hI => ?_)
    · exact ⟨same_new nDl, [], [], upd_same, StepsAt.nil, (fun s hs => nomatch hs), Nat.le_refl _⟩
    · obtain ⟨s1, acc, L, eD, hA1, hL1, lL1⟩ := hI
      obtain ⟨Tp, u, v, rfl, nT, rfl, hu, hv⟩ := hy
      cases Option.some.inj hu
      have hi2 : i < st.length := by
        rw [← lus]
        exact hi
      have hs0 := List.getElem?_eq_getElem hi2
      obtain ⟨r, hr1, hr2⟩ := hS.2 i _ hs0
      cases Option.some.inj (hr1.symm.trans hv)
      have hws := (step_cases (hst _ (List.getElem_mem hi2))).2
      obtain ⟨k2, r2, ek⟩ : ∃ k2 r2, (st[i]).1 = k2 :: r2 := by
        rcases hws with ⟨y, _, e | e | e⟩ | ⟨y, u, _, _, _, e⟩ <;> exact ⟨_, _, e⟩
      rw [ek] at hr2
      have sT := same_new (o := .tup [.int (i : Nat), .ref r]) nT
      refine ⟨Tp, _, rfl, SqT.of upd_same, rfl, _, _, rfl, ?_⟩
      refine ⟨_, _, rfl, rfl, ?_⟩
      have s2 := s1.trans sT
      have eD2 := sT _ _ eD
      replace hA1 := hA1.same sT
      clear nT
      generalize upd H' Tp (.tup [.int (i : Nat), .ref r]) = H' at s2 eD2 hA1 sT ⊢
      clear sT
      refine ⟨rfl, i_test (i_op ⟨_, rfl, i_c (r_ixT (sameT (t10.trans s2) hr2) (at_0 _ _) (i_tup2 fun pt npt => r_in (.inr (SqT.of upd_same)) rfl rfl (inV_sV _ ["pour", "draw"]) ⟨_, rfl, ite2 (fun e => ?_) (fun e => ?_)⟩))⟩)⟩
      · have s3 := same_new (o := .tup [.str "pour", .str "draw"]) npt
        have eD3 := s3 _ _ eD2
        replace hA1 := hA1.same s3
        have s4' := s2.trans s3
        refine i_tup (i_cons (i_c (i_cons (i_var rfl (i_nil ⟨by show 2 ≤ sizeLine; decide, fun pq npq => ?_⟩)))))
        have s4 := same_new (o := .tup [.str "by", .int (i : Int)]) npq
        have eD4 := s4 _ _ eD3
        have la := hA1.1
        have k := (KeepT.of s4).trans (KeepT.put (K := K) (o := .lst (acc ++ [.ref pq])) eD4)
        refine ⟨acc, eD4, small1000 (by omega), same_mut (s4'.trans s4) nDl, acc ++ [.ref pq], L ++ [byT i], upd_same, (hA1.keep k).snoc (z := byT i) ((KeepT.put (K := K) eD4) _ _ (SqT.of upd_same)), fun s hs => ?_, ?_⟩
        · rcases List.mem_append.mp hs with hs | hs
          · exact hL1 s hs
          · rw [List.mem_singleton.mp hs]
            exact List.mem_map.mpr ⟨i, List.mem_range.mpr hi2, rfl⟩
        · rw [List.length_append, List.length_singleton]
          omega
      · have s3 := same_new (o := .tup [.str "pour", .str "draw"]) npt
        exact ⟨s2.trans s3, acc, L, s3 _ _ eD2, hA1.same s3, hL1, by omega⟩
    obtain ⟨s11, acc, L, eD, hA1, hL1, lL1⟩ := hI
    have npl : Dl ≠ p := fun z => pot_some hP10 (z ▸ nDl)
    have hP11 := hP10.sameH s11
    have b11 := b10.trans (same_but s11)
    have ePd11 := same_but s11 _ _ ePd10 (p := p)
    have ePc11 := same_but s11 _ _ ePc10 (p := p)
    have hTm11 := sameT (same_but s11 (p := p)) hTm10
    have eDl11 : (But H11 p) Dl = some (.lst acc) := (del_ne npl).trans eD
    have t11 := b11.trans but_same
    have wL : ∀ s ∈ L, WOk s.1 := fun s hs => by
      obtain ⟨m, _, h⟩ := spotsB_ok (vn := vn) s (hL1 s hs)
      exact spot_wok hV0 h
    have hAL : StepsAt K (But H11 p) acc L := ⟨hA1.1, fun i z hz => by
      obtain ⟨r, h1, h2⟩ := hA1.2 i z hz
      refine ⟨r, h1, ?_⟩
      rcases h2 with (h2 | ⟨o, h2⟩) | h2
      · exact .inl (.inl ((del_ne (fun y => by
          obtain ⟨a1, a2, a3, a4, _⟩ := hP11
          rw [y, a4] at h2
          cases h2)).trans h2))
      · exact .inl (.inr ⟨o, (del_ne (fun y => by
          obtain ⟨a1, a2, a3, a4, _⟩ := hP11
          rw [y, a4] at h2
          cases h2)).trans h2⟩)
      · exact .inr h2⟩
    refine i_for (i_cons (cut_te (R := fun v H' => ∃ k : Nat, v = .int (k : Int) ∧ Same (But H11 p) (But H' p) ∧ Pot H' p (n + 14 + 1) ∧ (k : Int) ≤ 6 ∧ (0 < k → st ≠ [])) (fun Q' q' => ?_) (fun v H12 hR12 => ?_)))
    · refine i_ifx (i_neSt (K := K) (fun Q q => i_dget (i_var rfl (i_c ⟨o, _, rfl, get_dk (k := .inr "steps") (t11 _ _ hO) (own_b pn b c), q⟩))) (SqL.of (t11 _ _ hB)) (hS.same t11) wst fun H2 s2 => ?_)
      by_cases m : st = []
      · rw [decide_eq_true m]
        exact iteF (i_c (q' _ _ ⟨0, rfl, same_but s2, (hP11.sameH s2).up (by omega) (by omega), by omega, fun z => absurd z (by decide)⟩))
      · rw [decide_eq_false m]
        refine iteT (i_call (i_cons (i_var rfl (i_cons (i_op (i_var rfl (i_c ⟨_, _, rfl, rfl, i_nil ⟨p, _, n + 14, rfl, by omega, by omega, hP11.sameH s2, by omega, fun H3 r s3 hP3 r0 r1 => ?_⟩⟩)))))))
        obtain ⟨k, rfl⟩ : ∃ k : Nat, r = k := ⟨r.toNat, by omega⟩
        exact q' _ _ ⟨k, rfl, (same_but s2).trans s3, hP3, by omega, fun _ => m⟩
    obtain ⟨k, rfl, s12, hP12, k6, kne⟩ := hR12
    refine i_nil ⟨(k : Int), rfl, by omega, by omega, fr_range (n := k) (fun i σ' H' => ∃ sa2 c2 ws2 r7 r8 r9 r10 r11 r12 r13 r14 r15, σ' = [some (.ref p), some (.ref o), some (.int t), some (.int g), some (.ref pd), some (.ref Tm), some (.ref Dl), r7, r8, r9, r10, r11, r12, r13, r14, r15] ∧ Same (But H p) (But H' p) ∧ Pot H' p (n + 14 + 1 + 10 * i) ∧ SqT K (But H' p) Tm (iV its) ∧ (But H' p) Dl = some (.lst acc) ∧ StepsAt K (But H' p) acc L ∧ (But H' p) pd = some (.dK (ownKV pn b c2)) ∧ (But H' p) c2 = some (.lst ws2) ∧ SampsAt K (But H' p) ws2 sa2 ∧ (∀ z ∈ sa2, sampB vn (st.length : Nat) z = true) ∧ sa2.Nodup ∧ sa2.length ≤ i) ?_ (fun i σ' H' hi hI => ?_) (fun σ' H' hI => ?_)⟩
    · refine ⟨[], pc, [], _, _, _, _, _, _, _, _, _, rfl, b11.trans s12, ?_, sameT s12 hTm11, s12 _ _ eDl11, hAL.same s12, s12 _ _ ePd11, s12 _ _ ePc11, .nil, (fun z hz => nomatch hz), List.nodup_nil, Nat.le_refl _⟩
      rw [show n + 14 + 1 + 10 * ((0 : Nat) : Int) = n + 14 + 1 by omega]
      exact hP12
    · obtain ⟨sa2, c2, ws2, r7, r8, r9, r10, r11, r12, r13, r14, r15, rfl, b13, hP13, hTm13, hDl13, hL13, hPd13, hc13, hW13, ok13, nd13, l13⟩ := hI
      have ne := kne (by omega)
      have n0 : 0 < st.length := List.length_pos_iff.mpr ne
      obtain ⟨m, em⟩ : ∃ m : Int, n + 14 + 1 + 10 * (i : Int) = m := ⟨_, rfl⟩
      have m9 : m + 10 ≤ n + 100 := by omega
      rw [em] at hP13
      have t13 := b13.trans but_same
      refine i_set (i_call (i_cons (i_var rfl (i_cons (cut_te (R := fun v H2 => ∃ l xs L2, v = .ref l ∧ Same (But H' p) (But H2 p) ∧ Pot H2 p (m + 1) ∧ (But H2 p) l = some (.lst xs) ∧ StepsAt K (But H2 p) xs L2 ∧ 0 < xs.length ∧ xs.length ≤ 200 ∧ ∀ s ∈ L2, ∃ q : Int, s.2 = some q ∧ spotB vn (st.length : Nat) (some q) s.1 = true) (fun Q' q' => ?_) (fun v H14 hR14 => ?_))))))
      · have go : ∀ H2, Same (But H' p) (But H2 p) → Pot H2 p (m + 1) → spSpots K [.ref o] H2 Q' E0 := fun H2 b2 hP2 => by
          refine ⟨o, vn, st, sa, rfl, hOw0.same ((b13.trans b2).trans but_same), v6, l14, fun pl xs H3 s3 npl3 epl hxs => ?_⟩
          have npl3p : pl ≠ p := fun z => pot_some hP2 (z ▸ npl3)
          have lx := hxs.1
          have lb : (spotsB st.length).length = st.length := by
            unfold spotsB
            rw [List.length_map, List.length_range]
          have li := spotsI_len vn st.length
          have lm : st.length * vn.length ≤ 14 * 6 := Nat.mul_le_mul l14 v6
          rw [List.length_append, lb, li] at lx
          have hP3 := hP2.sameH s3
          have hx2 : StepsAt K (But H3 p) xs (spotsB st.length ++ spotsI vn st.length) := ⟨hxs.1, fun i z hz => by
            obtain ⟨r, h1, h2⟩ := hxs.2 i z hz
            exact ⟨r, h1, off_tup hP3 h2⟩⟩
          refine q' _ _ ⟨pl, xs, _, rfl, b2.trans (same_but s3), hP3, (del_ne npl3p).trans epl, hx2, by omega, by omega, fun s hs => ?_⟩
          rcases List.mem_append.mp hs with hs | hs
          · exact spotsB_ok s hs
          · exact spotsI_ok s hs
        refine i_ifx (i_and (i_neSt (K := K) (fun Q q => i_var rfl q) (SqL.of (but_same _ _ hDl13)) (hL13.same but_same) wL fun H2 s2 => ?_))
        have hP2 := hP13.sameH s2
        by_cases y : L = []
        · rw [decide_eq_true y]
          exact iteF (iteF (i_call (i_cons (i_var rfl (i_nil (go _ (same_but s2) (hP2.up (by omega) (by omega))))))))
        · rw [decide_eq_false y]
          refine iteT (i_test (i_op (i_call (i_cons (i_var rfl (i_cons (i_c (i_nil ⟨p, 3, m, rfl, by decide, by decide, hP2, by omega, fun H3 r s3 hP3 r0 r1 => i_c ⟨_, _, rfl, rfl, ⟨_, rfl, ite2 (fun e => ?_) (fun e => ?_)⟩⟩⟩))))))))
          · have la := hL13.1
            have b23 := (same_but s2 (p := p)).trans s3
            exact i_var rfl (q' _ _ ⟨Dl, acc, L, rfl, b23, hP3, b23 _ _ hDl13, hL13.same b23, by rw [la]; exact List.length_pos_iff.mpr y, by omega, fun s hs => spotsB_ok s (hL1 s hs)⟩)
          · exact i_call (i_cons (i_var rfl (i_nil (go _ ((same_but s2).trans s3) hP3))))
      obtain ⟨l, xs, L2, rfl, b14, hP14, el14, hx14, x0, x200, hok14⟩ := hR14
      refine i_nil ⟨p, l, xs, m + 1, rfl, SqL.of el14, x0, by omega, hP14, by omega, fun H15 v s15 hP15 hv => ?_⟩
      obtain ⟨sp, rp, hsp, rfl, hrp0⟩ := hx14.mem hv
      obtain ⟨pm, epm, hspot⟩ := hok14 sp hsp
      obtain ⟨wd, opm⟩ := sp
      cases epm
      have b15 := b14.trans s15
      have hrp := sameT s15 hrp0
      have hP15b := hP15
      refine i_set (i_call (i_cons (i_var rfl (i_cons (i_lst (i_cons (i_c (i_cons (i_c (i_cons (i_c (i_nil ⟨by show 3 ≤ sizeLine; decide, fun pw npw => ?_⟩))))))))))))
      have s16 := same_new (o := .lst [.str "is", .str "least", .str "most"]) npw
      have npwp : pw ≠ p := fun z => pot_some hP15 (z ▸ npw)
      refine i_nil ⟨p, pw, sV ["is", "least", "most"], m + 1 + 1, rfl, SqL.of ((del_ne npwp).trans upd_same), by decide, by decide, hP15.sameH s16, by omega, fun H17 v s17 hP17 hv => ?_⟩
      obtain ⟨kw, hkw, rfl⟩ := List.mem_map.mp hv
      have b17 := (b15.trans (same_but s16)).trans s17
      have hrp17 := sameT s17 (sameT (same_but s16 (p := p)) hrp)
      have hTm17 := sameT b17 hTm13
      have b17' := b13.trans b17
      refine i_par (i_cons (i_call (i_cons (i_var rfl (i_cons (i_var rfl (i_cons (i_var rfl (i_nil ⟨o, Tm, rp, vn, st, sa, its, wd, pm, rfl, hOw0.same (b17'.trans but_same), sameT but_same hTm17, lI, nd, hst, l14, v6, sameT but_same hrp17, hspot, fun H18 s18 => ?_⟩)))))))))
      obtain ⟨d0, d1⟩ := dye_bound v6 hG l14 lI hR hspot
      generalize dyeS vn st its wd pm = dy at d0 d1
      refine i_cons (i_call (i_cons (i_var rfl (i_cons (i_lst (i_cons (i_c (i_cons (i_c (i_cons (i_c (i_cons (i_c (i_nil ⟨by show 4 ≤ sizeLine; decide, fun pq npq => ?_⟩))))))))))))))
      have s19 := s18.trans (same_new (o := .lst [.int 0, .int 0, .int 1, .int 2]) npq)
      have hP18 := hP17.sameH s18
      have npqp : pq ≠ p := fun z => pot_some hP18 (z ▸ npq)
      refine i_nil ⟨p, pq, [.int 0, .int 0, .int 1, .int 2], m + 1 + 1 + 1, rfl, SqL.of ((del_ne npqp).trans upd_same), by show 0 < 4; decide, by show 4 ≤ 1000; decide, hP17.sameH s19, by omega, fun H20 v s20 hP20 hv => ?_⟩
      obtain ⟨mo, rfl, mo0, mo1⟩ : ∃ z : Int, v = .int z ∧ 0 ≤ z ∧ z ≤ 2 := by
        simp only [List.mem_cons, List.not_mem_nil, or_false] at hv
        rcases hv with rfl | rfl | rfl | rfl
        · exact ⟨0, rfl, by omega, by omega⟩
        · exact ⟨0, rfl, by omega, by omega⟩
        · exact ⟨1, rfl, by omega, by omega⟩
        · exact ⟨2, rfl, by omega, by omega⟩
      refine i_nil ⟨_, _, rfl, ?_⟩
      have b20 := (b17.trans (same_but s19)).trans s20
      have hrp20 := sameT s20 (sameT (same_but s19 (p := p)) hrp17)
      refine i_set (cut_te (R := fun v H2 => ∃ z : Int, v = .int z ∧ H2 = H20 ∧ 0 ≤ z ∧ z ≤ 1388) (fun Q' q' => ?_) (fun v H21 hR21 => ?_))
      · refine i_ifx (i_test (i_op (i_var rfl (i_c (r_eqS ⟨_, rfl, ite2 (fun e => ?_) (fun e => ?_)⟩)))))
        · exact i_var rfl (q' _ _ ⟨dy, rfl, rfl, d0, by omega⟩)
        · refine i_ifx (i_test (i_op (i_var rfl (i_c (r_eqS ⟨_, rfl, ite2 (fun e => ?_) (fun e => ?_)⟩)))))
          · refine i_cb (i_cons (i_c (i_cons (i_op (i_var rfl (i_var rfl ⟨_, _, rfl, rfl, i_nil ⟨_, _, rfl, q' _ _ ⟨_, rfl, rfl, ?_, ?_⟩⟩⟩))))))
            · split <;> omega
            · split <;> omega
          · exact i_op (i_var rfl (i_var rfl ⟨_, _, rfl, rfl, q' _ _ ⟨_, rfl, rfl, by omega, by omega⟩⟩))
      obtain ⟨z1, rfl, rfl, z10, z11⟩ := hR21
      refine i_set (cut_te (R := fun v H2 => ∃ z : Int, v = .int z ∧ Same (But H21 p) (But H2 p) ∧ Pot H2 p (m + 1 + 1 + 1 + 1 + 1 + 1) ∧ 0 ≤ z ∧ z ≤ 1388) (fun Q' q' => ?_) (fun v H22 hR22 => ?_))
      · refine i_ifx (i_and (i_test (i_op (i_var rfl (i_c ⟨_, _, rfl, rfl, ⟨_, rfl, ite2 (fun e => ?_) (fun e => ?_)⟩⟩)))))
        · have gp : 0 < g := of_decide_eq_true e
          refine i_test (i_op (i_call (i_cons (i_var rfl (i_cons (i_var rfl (i_nil ⟨p, g, m + 1 + 1 + 1 + 1, rfl, by omega, by omega, hP20, by omega, fun H3 r s3 hP3 r0 r1 => i_c (r_eqI ⟨_, rfl, ite2 (fun e => ?_) (fun e => ?_)⟩)⟩)))))))
          · refine i_call (i_cons (i_var rfl (i_cons (i_op (i_call (i_cons (i_var rfl (i_cons (i_var rfl (i_nil ⟨o, rp, vn, st, sa, wd, pm, rfl, hOw0.same (((b13.trans b20).trans s3).trans but_same), nd, hst, l14, v6, sameT but_same (sameT s3 hrp20), hspot, fun H4 s4 => i_c ⟨_, _, rfl, rfl, ?_⟩⟩))))))))))
            obtain ⟨y0, y1⟩ := size_bound v6 hG l14 hspot
            generalize sizeS vn st wd pm = sz at y0 y1
            exact i_nil ⟨p, sz + 2, m + 1 + 1 + 1 + 1 + 1, rfl, by omega, by omega, hP3.sameH s4, by omega, fun H5 r5 s5 hP5 r50 r51 => q' _ _ ⟨r5, rfl, (s3.trans (same_but s4)).trans s5, hP5, r50, by omega⟩⟩
          · exact i_var rfl (q' _ _ ⟨z1, rfl, s3, hP3.up (by omega) (by omega), z10, z11⟩)
        · exact iteF (i_var rfl (q' _ _ ⟨z1, rfl, Same.refl _, hP20.up (by omega) (by omega), z10, z11⟩))
      obtain ⟨sz, rfl, b22, hP22, sz0, sz1⟩ := hR22
      have b22' := b20.trans b22
      have hrp22 := sameT b22 hrp20
      refine i_set (i_tup (i_cons (i_var rfl (i_cons (i_var rfl (i_cons (i_var rfl (i_nil ⟨by show 3 ≤ sizeLine; decide, fun Tc nTc => ?_⟩))))))))
      have s23 := same_new (o := .tup [.str kw, .int sz, .ref rp]) nTc
      have nTcp : Tc ≠ p := fun z => pot_some hP22 (z ▸ nTc)
      have hz : SampV K (But (upd H22 Tc (.tup [.str kw, .int sz, .ref rp])) p) (.ref Tc) (some (kw, some sz, wd, some pm)) := ⟨Tc, rp, rfl, SqT.of ((del_ne nTcp).trans upd_same), sameT (same_but s23 (p := p)) hrp22⟩
      have b23 := b22'.trans (same_but s23)
      have hP23 := hP22.sameH s23
      generalize upd H22 Tc (.tup [.str kw, .int sz, .ref rp]) = H23 at hz b23 hP23 ⊢
      have ePd := b23 _ _ hPd13
      have ec := b23 _ _ hc13
      have hW := hW13.keep (KeepT.of b23)
      have okz : SOk (some (kw, some sz, wd, some pm)) := ⟨three_ok kw hkw, spot_wok hV0 hspot⟩
      have okall : ∀ z ∈ sa2, SOk z := fun z hz2 => by
        obtain ⟨k0, n0, ws, m0, rfl, hk0, _, _, _, hw0, _, _⟩ := samp_words hV0 l14 (ok13 z hz2)
        exact ⟨strOk_of fun c hc => (hk0.2 c hc).1, fun w hw => strOk_of fun c hc => ((hw0 w hw).2 c hc).1⟩
      have sz : sampB vn (st.length : Nat) (some (kw, some sz, wd, some pm)) = true := by
        show (decide (kw ∈ (["is", "least", "most"] : List Str)) && ((decide (0 ≤ sz) && decide (sz ≤ 9999)) && spotB vn (st.length : Nat) (some pm) wd)) = true
        rw [decide_eq_true hkw, decide_eq_true sz0, decide_eq_true (by omega), hspot]
        rfl
      generalize (some (kw, some _, wd, some pm) : SampT) = z at hz okz sz
      refine i_if1 (i_test (i_op (i_var rfl (i_dget (i_var rfl (i_c ⟨pd, _, rfl, get_dk (k := .inr "samples") (but_same _ _ ePd) (own_c pn b c2), sampD z, sa2.map sampD, dp_samp (hz.same but_same), .lst (SqL.of (but_same _ _ ec)) (dp_samps (hW.keep (.of but_same))), shaped_samp z okz, shaped_samps sa2 okall, _, rfl, ?_⟩))))))
      rw [any_samp]
      have up9 : n + 14 + 1 + 10 * ((i + 1 : Nat) : Int) = m + 10 := by omega
      by_cases mz : z ∈ sa2
      · rw [decide_eq_true mz]
        refine iteF ⟨sa2, c2, ws2, _, _, _, _, _, _, _, _, _, rfl, b13.trans b23, ?_, sameT b23 hTm13, b23 _ _ hDl13, hL13.same b23, ePd, ec, hW, ok13, nd13, by omega⟩
        rw [up9]
        exact hP23.up (by omega) (by omega)
      · rw [decide_eq_false mz]
        have lw := hW.length
        refine iteT (i_dputL (i_op (i_dget (i_var rfl (i_c ⟨pd, _, rfl, get_dk (k := .inr "samples") (but_same _ _ ePd) (own_c pn b c2), i_lst (i_cons (i_var rfl (i_nil ⟨by show 1 ≤ sizeLine; decide, fun p1 n1 => ⟨c2, p1, ws2, [.ref Tc], rfl, rfl, same_new n1 _ _ (but_same _ _ ec), upd_same, Nat.le_trans (show ws2.length + 1 ≤ 8 by omega) (by decide), fun p2 n2 => ⟨_, rfl, pd, _, rfl, .inl ⟨_, .inr ("samples" : Str), same_new n2 _ _ (same_new n1 _ _ (but_same _ _ ePd)), rfl, by show 3 < _; decide, rfl⟩, ?_⟩⟩⟩)))⟩)))))
        rw [put_c]
        have s24 := (same_new (o := .lst [.ref Tc]) n1).trans (same_new (o := .lst (ws2 ++ [.ref Tc])) n2)
        have hP24a := hP23.sameH (same_new (o := .lst [.ref Tc]) n1)
        have np2 : p2 ≠ p := fun z => pot_some hP24a (z ▸ n2)
        have e2 : (But (upd (upd H23 p1 (.lst [.ref Tc])) p2 (.lst (ws2 ++ [.ref Tc]))) p) p2 = some (.lst (ws2 ++ [.ref Tc])) := (del_ne np2).trans upd_same
        have hP24 := hP23.sameH s24
        have b24 := b23.trans (same_but s24)
        have ePd24 := same_but s24 _ _ ePd (p := p)
        have hW24 : SampsAt K (But (upd (upd H23 p1 (.lst [.ref Tc])) p2 (.lst (ws2 ++ [.ref Tc]))) p) (ws2 ++ [.ref Tc]) (sa2 ++ [z]) := (hW.keep (KeepT.of (same_but s24))).snoc (hz.same (same_but s24))
        generalize upd (upd H23 p1 (.lst [.ref Tc])) p2 (.lst (ws2 ++ [.ref Tc])) = H24 at e2 hP24 b24 ePd24 hW24 ⊢
        have br : Bar pd (But H24 p) (But (upd H24 pd (.dK (ownKV pn b p2))) p) := by
          rw [but_upd2 npdp]
          exact Bar.put (Same.refl _)
        have kp := br.keep (K := K) ePd24
        refine ⟨sa2 ++ [z], p2, ws2 ++ [.ref Tc], _, _, _, _, _, _, _, _, _, rfl, but_mut npd0 hp0 (b13.trans b24), ?_, kp _ _ (sameT b24 hTm13), br.lst ePd24 (b24 _ _ hDl13), (hL13.same b24).keep kp, (del_ne npdp).trans upd_same, br.lst ePd24 e2, hW24.keep kp, fun y hy => ?_, ?_, ?_⟩
        · rw [up9]
          exact (hP24.off npdp).up (by omega) (by omega)
        · rcases List.mem_append.mp hy with hy | hy
          · exact ok13 y hy
          · rw [List.mem_singleton.mp hy]
            exact sz
        · rw [List.nodup_append]
          refine ⟨nd13, List.nodup_cons.mpr ⟨List.not_mem_nil, List.nodup_nil⟩, fun x hx y hy => ?_⟩
          rw [List.mem_singleton.mp hy]
          exact fun z2 => mz (z2 ▸ hx)
        · rw [List.length_append, List.length_singleton]
          omega
    · obtain ⟨sa2, c2, ws2, r7, r8, r9, r10, r11, r12, r13, r14, r15, rfl, b13, hP13, hTm13, hDl13, hL13, hPd13, hc13, hW13, ok13, nd13, l13⟩ := hI
      exact i_ret (i_var rfl (q H' pd sa2 b13 (hP13.up (by omega) (by omega)) ⟨b, c2, us, ws2, hPd13, b13 _ _ hA, b13 _ _ hB, hS.same b13, hc13, hW13⟩ ok13 nd13 (by omega)))
end
end K10
set_option Elab.async false
set_option linter.all false
set_option maxRecDepth 100000
set_option maxHeartbeats 4000000
/-! Drawn rows are mixings; what all vessels hold together. -/
namespace Er
open PySem PySem.Spec PyProof.Rows L2
theorem at_set {l : List Int} {i : Nat} {x : Int} (h : i < l.length) : (l.set i x).getD i 0 = x := by
  rw [getD_set h, if_pos rfl]
theorem mix_row {vn : List Str} {st : List StepT} {its : List Int} (hst : AllSt vn st) (lT : its.length = st.length) (h : RowOk vn st its) : MixOk vn st its := by
  refine ⟨lT, fun i ws n d hs hd => ?_⟩
  have hb := hst _ (List.mem_of_getElem? hs)
  obtain ⟨d0, dn, fx⟩ := h.2 i _ _ hs hd
  have dn' : d ≤ n := dn
  have fx' : FixD ws n d := fx
  have hi : i < its.length := (List.getElem?_eq_some_iff.mp hd).1
  have u1 := h.1 (i + 1) (by omega)
  have e1 : levAt vn (st.take (i + 1)) = movedL vn (levAt vn (st.take i)) ws n := by
    rw [List.take_add_one, hs, Option.toList_some, levAt_snoc]
    rfl
  rw [e1, levD_succ hs hd] at u1
  have lL : (levAt vn (st.take i)).length = vn.length := levAt_len
  have lD : (levAt vn ((dyedS st its).take i)).length = vn.length := levAt_len
  generalize levAt vn (st.take i) = L at u1 lL ⊢
  generalize levAt vn ((dyedS st its).take i) = D at u1 lD ⊢
  obtain ⟨_, hc⟩ := step_cases hb
  have fin : ∀ lo hg : Int, roomL vn ws n L D = (lo, hg) → (takenS ws = none → d = hg) → d ≤ hg → lo ≤ d → faultL vn ws n L D d = none := fun lo hg er e2 e3 e4 => by
    unfold faultL
    rw [er]
    rw [if_neg (fun z => z.elim (fun z => z ⟨d0, dn'⟩) fun z => z.2 (e2 z.1)), if_neg (show ¬ hg < d by omega), if_neg (show ¬ d < lo by omega)]
  rcases hc with ⟨x, hx, rfl | rfl | rfl⟩ | ⟨x, z, hx, hz, hxz, rfl⟩
  · have et : takenS ["fill", x] = none := by rw [takenS_2, if_neg (by decide +kernel)]
    have e9 : d = 0 := (fx' et).trans (if_pos rfl)
    refine fin 0 0 ?_ (fun _ => e9) (by omega) (by omega)
    unfold roomL
    rw [et]
    exact if_pos rfl
  · have et : takenS ["dye", x] = none := by rw [takenS_2, if_neg (by decide +kernel)]
    have e9 : d = n := (fx' et).trans (if_neg (show ¬ ("dye" : Str) = "fill" by decide +kernel))
    refine fin n n ?_ (fun _ => e9) (by omega) (by omega)
    unfold roomL
    rw [et]
    exact if_neg (show ¬ ("dye" : Str) = "fill" by decide +kernel)
  · have et : takenS ["draw", x] = some x := by rw [takenS_2, if_pos rfl]
    have hj : vn.idxOf x < vn.length := List.idxOf_lt_length_of_mem hx
    have u2 := u1 (vn.idxOf x)
    rw [mov_draw, mov_draw, at_set (by omega), at_set (by omega)] at u2
    refine fin _ _ (by unfold roomL; rw [et]) (fun z => by rw [et] at z; cases z) ?_ ?_
    · split <;> omega
    · split <;> omega
  · have et : takenS ["pour", x, z] = some x := rfl
    have hj : vn.idxOf x < vn.length := List.idxOf_lt_length_of_mem hx
    have ne : ¬ vn.idxOf x = vn.idxOf z := fun w => hxz (idx_inj hx hz w)
    have u2 := u1 (vn.idxOf x)
    rw [pour_at lL hx hz, pour_at lD hx hz, if_neg ne, if_neg ne, if_pos rfl, if_pos rfl] at u2
    refine fin _ _ (by unfold roomL; rw [et]) (fun z => by rw [et] at z; cases z) ?_ ?_
    · split <;> omega
    · split <;> omega
/-! how much dye there is in all -/
theorem sum_set : ∀ {l : List Int} {i : Nat} {x : Int}, i < l.length → (l.set i x).sum = l.sum - l.getD i 0 + x
  | a :: l, 0, x, _ => by
    show (x :: l).sum = (a :: l).sum - a + x
    rw [List.sum_cons, List.sum_cons]
    omega
  | a :: l, i + 1, x, h => by
    show (a :: l.set i x).sum = (a :: l).sum - l.getD i 0 + x
    have h2 : i < l.length := by
      rw [List.length_cons] at h
      omega
    rw [List.sum_cons, List.sum_cons, sum_set h2]
    omega
def heldBy (ws : List Str) (n d : Int) : Int := if ws.headD "" = ("dye" : Str) then n else if ws.headD "" = ("draw" : Str) then -d else 0
def heldTo (st : List StepT) (its : List Int) : Nat → Int
  | 0 => 0
  | i + 1 => heldTo st its i + heldBy (st.getD i ([], none)).1 ((st.getD i ([], none)).2.getD 0) (its.getD i 0)
theorem held_eq {vn : List Str} {st : List StepT} {its : List Int} (hst : AllSt vn st) (lT : its.length = st.length) (h : RowOk vn st its) : ∀ i : Nat, i ≤ st.length → (levAt vn ((dyedS st its).take i)).sum = heldTo st its i
  | 0, _ => by
    show (List.replicate vn.length (0 : Int)).sum = 0
    induction vn.length with
    | zero => rfl
    | succ m ih => rw [List.replicate_succ, List.sum_cons, ih]; rfl
  | i + 1, hi => by
    have ih := held_eq hst lT h i (by omega)
    obtain ⟨ws, n, hs, hb⟩ := step_at hst (show i < st.length by omega)
    have hd : its[i]? = some (its.getD i 0) := by
      rw [List.getD_eq_getElem?_getD, List.getElem?_eq_getElem (by omega)]
      rfl
    have es : st.getD i ([], none) = (ws, some n) := by
      rw [List.getD_eq_getElem?_getD, hs]
      rfl
    obtain ⟨d0, dn, fx⟩ := h.2 i _ _ hs hd
    have fx' : FixD ws n (its.getD i 0) := fx
    rw [levD_succ hs hd]
    unfold heldTo
    rw [es, ← ih]
    show _ = _ + heldBy ws n (its.getD i 0)
    generalize its.getD i 0 = d at fx' ⊢
    have lD : (levAt vn ((dyedS st its).take i)).length = vn.length := levAt_len
    generalize levAt vn ((dyedS st its).take i) = D at lD ⊢
    obtain ⟨_, hc⟩ := step_cases hb
    have bd : ∀ x : Str, x ∈ vn → vn.idxOf x < D.length := fun x hx => by rw [lD]; exact List.idxOf_lt_length_of_mem hx
    rcases hc with ⟨x, hx, rfl | rfl | rfl⟩ | ⟨x, z, hx, hz, hxz, rfl⟩
    · have et : takenS ["fill", x] = none := by rw [takenS_2, if_neg (by decide +kernel)]
      have e9 : d = 0 := (fx' et).trans (if_pos rfl)
      rw [mov_fill (by decide +kernel), sum_set (bd x hx)]
      have eh : heldBy ["fill", x] n d = 0 := (if_neg (show ¬ ("fill" : Str) = "dye" by decide +kernel)).trans (if_neg (show ¬ ("fill" : Str) = "draw" by decide +kernel))
      rw [eh]
      omega
    · have et : takenS ["dye", x] = none := by rw [takenS_2, if_neg (by decide +kernel)]
      have e9 : d = n := (fx' et).trans (if_neg (show ¬ ("dye" : Str) = "fill" by decide +kernel))
      rw [mov_fill (by decide +kernel), sum_set (bd x hx)]
      have eh : heldBy ["dye", x] n d = n := if_pos rfl
      rw [eh]
      omega
    · rw [mov_draw, sum_set (bd x hx)]
      have eh : heldBy ["draw", x] n d = -d := (if_neg (show ¬ ("draw" : Str) = "dye" by decide +kernel)).trans (if_pos rfl)
      rw [eh]
      omega
    · have ne : ¬ vn.idxOf z = vn.idxOf x := fun w => hxz (idx_inj hx hz w.symm)
      rw [mov_pour, sum_set (by rw [List.length_set]; exact bd z hz), sum_set (bd x hx), getD_set (bd x hx), if_neg ne]
      have eh : heldBy ["pour", x, z] n d = 0 := (if_neg (show ¬ ("pour" : Str) = "dye" by decide +kernel)).trans (if_neg (show ¬ ("pour" : Str) = "draw" by decide +kernel))
      rw [eh]
      omega
end Er
set_option Elab.async false
set_option linter.all false
set_option maxRecDepth 100000
set_option maxHeartbeats 4000000
/-! A law's own yard made a Yard; a law's own reading of samples. -/
namespace Er
open PySem PySem.Spec PyProof.Rows L2
def spYardL (K : PySem.W.Frag) : Sp := fun vs H Q _ => ∃ o pn vn st sa, vs = [.ref o] ∧ OwnE K H o pn vn st sa ∧ Drawn vn st sa ∧ ∀ y H', Same H H' → YardG K H' y vn st sa → Q (.ref y) H'
def spDoesK (K : PySem.W.Frag) : Sp := fun vs H Q _ => ∃ o t v vn st sa its z, vs = [.ref o, .ref t, v] ∧ OwnAt K H o vn st sa ∧ SqT K H t (iV its) ∧ its.length = st.length ∧ vn.Nodup ∧ AllSt vn st ∧ st.length ≤ 14 ∧ vn.length ≤ 6 ∧ SampV K H v z ∧ sampB vn (st.length : Nat) z = true ∧
  ∀ H', Same H H' → Q (.bl (keepS vn st its z)) H'
def spLight (K : PySem.W.Frag) : Sp := fun vs H Q _ => ∃ p n, vs = [.ref p] ∧ Pot H p n ∧ n + 300 ≤ 100000 ∧
  ∀ H' po pn vn st, Same (But H p) (But H' p) → Pot H' p (n + 203) → OwnE K (But H' p) po pn vn st [] → NamesOk vn → Grown vn st → st.length ≤ 14 → Q (.ref po) H'
/-- sum(t) of a tuple of whole numbers -/
def rSumT (K : PySem.W.Frag) : List V → Hp → VK → Prop := fun vs H Q => ∃ (a : Addr) (ns : List Int), vs = [V.ref a] ∧ SqT K H a (iV ns) ∧ Q (.int ns.sum) H
theorem cr_sumT {X : Cx} (hc : X.calm = true) : CallR X (.builtin "sum") (rSumT X.K) := by
  intro pins s σ H vs us Q I r h
  obtain ⟨a, ns, rfl, hs, q⟩ := h
  obtain ⟨its, rv, hl, _⟩ := I.tuple hs
  rw [Vals.ref1 r]
  have hi : IntsAre its ns := rv.ints
  obtain ⟨xs, e⟩ := hi.allInts.items
  have hn : numsOf (intItems xs).toList = ns := by rw [← e]; exact hi.numsOf
  rw [nums_intItems] at hn
  rw [e] at hl
  refine PySem.W.ktm_sumG (I.ok.hd hc) hl fun h' tk t' hk => ?_
  rw [preSum_eq, List.take_of_length_le (by simp), hn]
  exact ⟨.int _, H, I.kept hk, ⟨_, rfl⟩, q⟩
end Er
set_option Elab.async false
set_option linter.all false
set_option maxRecDepth 100000
set_option maxHeartbeats 4000000
namespace K10
open PySem PySem.Spec PyProof.Rows L2 Er
section
variable {P : Program} {w : World} {K : PySem.W.Frag} {mg : Str → Option Value} {base : Heap} {f : Addr} {fd : FuncData}
theorem sc_yard : FnScope ["own"] ["own"] (defScope s_yard) := ⟨rfl, rfl, rfl, by decide +kernel, rfl, by decide +kernel, by decide +kernel⟩
theorem ok_yard (T : Tx K mg) (F : FunD K "_law_yard" "_law_yard" (defArgs s_yard) (defBody s_yard) (defScope s_yard) [] [] f fd) (MK : Mk K (He.ga K "Yard") (He.ma K (He.ga K "Yard") "__init__")) {fdY : FuncData} (GY : FnOk P w K mg base (L2.CX P w) 6 (He.ma K (He.ga K "Yard") "__init__") fdY ["self", "text"] (spYardI K)) (bY : Binds K fdY ["self", "text"] [])
    {fdGTx : FuncData} (GTx : FnOk P w K mg base CX0 2 (He.ga K "_law_text") fdGTx ["own"] (spText K)) (GTxF : FnT K "_law_text" s_text fdGTx) (GTxB : Binds K fdGTx ["own"] []) : FnOk P w K mg base CX0 8 f fd ["own"] (spYardL K) := by
  refine F.ok sc_yard (fun vs H Q E h => ?_) (fun cdv A outer s H vs Q E hr h => ?_)
  · obtain ⟨o, pn, vn, st, sa, rfl, hO, hd, q⟩ := h
    rfl
  · obtain ⟨o, pn, vn, st, sa, rfl, hO, hd, q⟩ := h
    have hr_GTx := hr.mono (by decide : 2 ≤ 7)
    have hr_GY := hr
    refine ⟨_, PSs.nox (pss_one (ps_ret (pe_make MK GY hr_GY (by rfl) (T.gd "Yard" (mem_at 63 rfl)) bY .nil pass_no (pa_cons (pe_call GTx hr_GTx (by rfl) (T.gd "_law_text" (mem_at 49 rfl)) GTxF.kp GTxB .nil pass0 (pa_cons (pv 0) pa_nil)) pa_nil)))), ?_⟩
    obtain ⟨hV, hG, l14, ok, nd, l6⟩ := id hd
    exact i_ret (i_cons (i_call (i_cons (i_var rfl (i_nil ⟨o, pn, vn, st, sa, rfl, hO, hV, (hG.minv hV.2.2.1).1, l14, ok, l6, fun H1 s1 => i_nil (mk_yard hd fun y H' s' hY => q y H' (s1.trans s') hY)⟩)))))
theorem sc_does_keep : FnScope ["own", "its", "claim_here", "word", "size", "place", "dyed"] ["own", "its", "claim_here"] (defScope s_does_keep) := ⟨rfl, rfl, rfl, by decide +kernel, rfl, by decide +kernel, by decide +kernel⟩
theorem ok_does_keep (T : Tx K mg) (F : FunD K "_law_does_keep" "_law_does_keep" (defArgs s_does_keep) (defBody s_does_keep) (defScope s_does_keep) [] [] f fd) {fdGDd : FuncData} (GDd : FnOk P w K mg base CX0 2 (He.ga K "_law_dye") fdGDd ["own", "its", "place"] (spDye K)) (GDdF : FnT K "_law_dye" s_law_dye fdGDd) (GDdB : Binds K fdGDd ["own", "its", "place"] []) : FnOk P w K mg base CX0 3 f fd ["own", "its", "claim_here"] (spDoesK K) := by
  refine F.ok sc_does_keep (fun vs H Q E h => ?_) (fun cdv A outer s H vs Q E hr h => ?_)
  · obtain ⟨o, t, v, vn, st, sa, its, z, rfl, hO, hT, lT, nd, hst, l14, v6, hz, hzb, q⟩ := h
    rfl
  · obtain ⟨o, t, v, vn, st, sa, its, z, rfl, hO, hT, lT, nd, hst, l14, v6, hz, hzb, q⟩ := h
    have hr_GDd := hr
    refine ⟨_, PSs.nox (pss_cons (ps_asg (pv 2) (pg_tup rfl (pgs_cons (pg_name (i := 3) sc_does_keep.nd rfl (Or.inl rfl)) (pgs_cons (pg_name (i := 4) sc_does_keep.nd rfl (Or.inl rfl)) (pgs_cons (pg_name (i := 5) sc_does_keep.nd rfl (Or.inl rfl)) pgs_nil)))))
      (pss_cons (ps_set (i := 6) sc_does_keep.nd rfl (Or.inl rfl) (pe_call GDd hr_GDd (by rfl) (T.gd "_law_dye" (mem_at 54 rfl)) GDdF.kp GDdB .nil pass0 (pa_cons (pv 0) (pa_cons (pv 1) (pa_cons (pv 5) pa_nil)))))
      (pss_one (ps_ret (pe_ifExp (pt_cmpR op_eq (pv 3) pe_str (nomark _)) (pe_cmpR op_ge (pv 6) (pv 4) (nomark _)) (pe_ifExp (pt_cmpR op_eq (pv 3) pe_str (nomark _)) (pe_cmpR op_le (pv 6) (pv 4) (nomark _)) (pe_cmpR op_eq (pv 6) (pv 4) (nomark _)))))))), ?_⟩
    obtain ⟨k, n, ws, m, rfl, hk, n0, n1, hb⟩ := samp_ok hzb
    obtain ⟨a3, b3, rfl, h3, hP⟩ := hz
    refine i_asgs (i_var rfl ⟨a3, _, rfl, h3, rfl, ?_⟩)
    refine ⟨_, _, rfl, _, _, rfl, ?_⟩
    refine ⟨_, _, rfl, rfl, ?_⟩
    refine i_set (i_call (i_cons (i_var rfl (i_cons (i_var rfl (i_cons (i_var rfl (i_nil ⟨o, t, b3, vn, st, sa, its, ws, m, rfl, hO, hT, lT, nd, hst, l14, v6, hP, hb, fun H1 s1 => ?_⟩))))))))
    have y1 := q _ s1
    rw [keepS_some] at y1
    refine i_ret (i_ifx (i_test (i_op ⟨_, rfl, i_c (r_eqS ⟨_, rfl, ite2 (fun e => ?_) (fun e => ?_)⟩)⟩)))
    · have ek : k = ("least" : Str) := of_decide_eq_true e
      rw [ek, if_neg (show ¬ ("least" : Str) = "is" by decide +kernel), if_pos rfl] at y1
      exact i_op ⟨_, rfl, _, rfl, _, _, rfl, rfl, y1⟩
    · have nl : ¬ k = ("least" : Str) := fun w => e (decide_eq_true w)
      refine i_ifx (i_test (i_op ⟨_, rfl, i_c (r_eqS ⟨_, rfl, ite2 (fun e2 => ?_) (fun e2 => ?_)⟩)⟩))
      · have ek : k = ("most" : Str) := of_decide_eq_true e2
        rw [ek, if_neg (show ¬ ("most" : Str) = "is" by decide +kernel), if_neg (show ¬ ("most" : Str) = "least" by decide +kernel)] at y1
        exact i_op ⟨_, rfl, _, rfl, _, _, rfl, rfl, y1⟩
      · have nm : ¬ k = ("most" : Str) := fun w => e2 (decide_eq_true w)
        have ek : k = ("is" : Str) := by
          simp only [List.mem_cons, List.not_mem_nil, or_false] at hk
          rcases hk with w | w | w
          · exact w
          · exact absurd w nl
          · exact absurd w nm
        rw [if_pos ek] at y1
        exact i_op ⟨_, rfl, _, rfl, r_eqI y1⟩
end
end K10
set_option Elab.async false
set_option linter.all false
set_option maxRecDepth 100000
set_option maxHeartbeats 4000000
/-! A Yard's bare(); what is asked of a row that a law has drawn. -/
namespace Er
open PySem PySem.Spec PyProof.Rows L2
def spMixR (K : PySem.W.Frag) : Sp := fun vs H Q _ => ∃ o y t vn st sa its, vs = [.ref o, .ref y, .ref t] ∧ OwnAt K H o vn st sa ∧ YardG K H y vn st sa ∧ Drawn vn st sa ∧ SqT K H t (iV its) ∧ its.length = st.length ∧ RowOk vn st its ∧ ∀ H', Same H H' → Q (.bl true) H'
theorem look_mem {k : Str} : ∀ {fs : List (Str × V)} {v : V}, fs.lookup k = some v → k ∈ fs.map (·.1)
  | (g, x) :: fs, v, h => by
    by_cases e : k = g
    · rw [e]
      exact List.mem_cons_self ..
    · have e2 : (k == g) = false := beq_eq_false_iff_ne.mpr e
      rw [List.lookup_cons, e2] at h
      exact List.mem_cons_of_mem _ (look_mem h)
theorem YardG.bare {K : PySem.W.Frag} {H : Hp} {y : Addr} {vn : List Str} {st : List StepT} {sa : List SampT} (h : YardG K H y vn st sa) : ∃ dx fs, H y = some (.ins (He.ga K "Yard") dx fs) ∧ fs.lookup ("bare" : Str) = none := by
  obtain ⟨x, dx, fs, a, b, c, d, e, es, h1, h2, h3, h4, h5, h6, h7, h8, _⟩ := h
  refine ⟨dx, fs, h1, ?_⟩
  cases q : fs.lookup ("bare" : Str) with
  | none => rfl
  | some v =>
    have sub : (["bare", "text", "vessels", "steps", "samples", "levels", "ends"] : List Str) ⊆ fs.map (·.1) := fun k hk => by
      simp only [List.mem_cons, List.not_mem_nil, or_false] at hk
      rcases hk with rfl | rfl | rfl | rfl | rfl | rfl | rfl
      · exact look_mem q
      · exact look_mem h3
      · exact look_mem h4
      · exact look_mem h5
      · exact look_mem h6
      · exact look_mem h7
      · exact look_mem h8
    have z := List.Nodup.length_le_of_subset (by decide +kernel : (["bare", "text", "vessels", "steps", "samples", "levels", "ends"] : List Str).Nodup) sub
    rw [List.length_map] at z
    exact absurd z (by show ¬ 7 ≤ fs.length; omega)
theorem names_vals {vn : List Str} {D : List Int} (nd : vn.Nodup) (l : D.length = vn.length) : (vn.map fun x => D.getD (vn.idxOf x) 0) = D := by
  refine List.ext_getElem (by rw [List.length_map, l]) fun i h1 h2 => ?_
  rw [List.getElem_map, nd.idxOf_getElem, List.getD_eq_getElem?_getD, List.getElem?_eq_getElem h2]
  rfl
theorem lev_bound {vn : List Str} {st : List StepT} {its : List Int} (hG : Grown vn st) (l14 : st.length ≤ 14) (lT : its.length = st.length) (h : RowOk vn st its) {i : Nat} (hi : i ≤ st.length) : ∀ n ∈ levAt vn ((dyedS st its).take i), 0 ≤ n ∧ n ≤ 9999 := fun n hn => by
  obtain ⟨j, hj, rfl⟩ := List.getElem_of_mem hn
  have u := h.1 i (by omega) j
  have g := (hG.take i).le j
  rw [List.getD_eq_getElem?_getD, List.getElem?_eq_getElem hj] at u
  have l : (st.take i).length ≤ 14 := by rw [List.length_take]; omega
  have u' : 0 ≤ (levAt vn ((dyedS st its).take i))[j] ∧ (levAt vn ((dyedS st its).take i))[j] ≤ (levAt vn (st.take i)).getD j 0 := u
  omega
theorem eq_unit {K : PySem.W.Frag} {H : Hp} {p p2 : Addr} {Q : VK} (h : SqT K H p []) (h2 : SqT K H p2 []) (q : Q (.bl true) H) : rEqD K (.ref p) (.ref p2) H Q := by
  have sh := shaped_tupS [] (fun w hw => nomatch hw)
  refine ⟨.tuple [], .tuple [], .tup h .nil, .tup h2 .nil, sh, sh, ?_⟩
  have e : PyData.eqv (.tuple []) (.tuple []) = true := by simp [PyData.eqv, PyData.eqvAll]
  rw [e]
  exact q
structure BareY (P : Program) (w : World) (K : PySem.W.Frag) (mg : Str → Option Value) (base : Heap) : Prop where
  cls : Cls K (He.ga K "Yard")
  bare : ∃ fd, FnOk P w K mg base CX0 9 (He.ma K (He.ga K "Yard") "bare") fd ["self"] (spBare K) ∧ Binds K fd ["self"] []
end Er
set_option Elab.async false
set_option linter.all false
set_option maxRecDepth 100000
set_option maxHeartbeats 4000000
/-! t[lo:hi] of a tuple, the whole of it too (then it is t itself). -/
namespace HT
open PySem PySem.Spec PyProof.Rows PySem.F
section
variable {prog : Program} {w : World} {A : Around} {E : Value → Shared → Prop} {s : Shared}
theorem getItem_tuple_all {t sl : Addr} {items : Array Value} {vl vu : Value} {lo hi : Option Int} {Q : Value → Shared → Prop} (ht : IsTup s.heap t items) (hs : s.heap.IsSliceOf sl vl vu .none) (pl : IsPart vl lo) (pu : IsPart vu hi)
    (h0 : sIx items.size 0 lo = 0) (h1 : sIx items.size items.size hi = items.size) (h : Q (.ref t) s) : wpAny (model prog w) A (getItem (.ref t) (.ref sl)) Q E s := by
  obtain ⟨os, hos, hcs, hds⟩ := id hs
  have hTs : s.TypeIs (.ref sl) "slice" := ⟨os, hos, hcs⟩
  unfold getItem
  try with_reducible refine wpAny_holding ?_
  first | refine wpAny_bind (wpAny_pure ?_) | skip
  refine wpAny_bind (wpAny_sequenceKey ht.typeIs (by decide) ?_)
  refine wpAny_bind (wpAny_callSpecial?_slot (name := Str.ofString "__getitem__") ht.typeIs PyProof.Rows.slot_tuple_getitem
    (wpAny_call_entry PyProof.Rows.slot_tuple_getitem ht.typeIs PyProof.Rows.entry_tuple_getitem ?_ (PyProof.Rows.args_tuple_getitem _ _)))
  show wpAny _ _ (Builtin.Tuple.tupleItemsOf (.ref t) >>= _) _ _ s
  refine wpAny_bind (tupleItemsOf_ ht ?_)
  refine wpAny_bind (wpAny_typeOf hTs ?_)
  rw [if_pos (by decide)]
  refine wpAny_bind (sliceApplied_gen hs pl pu ?_)
  show wpAny _ _ (if (((sIx items.size 0 lo : Nat) : Int) == 0 && (1 : Int) == 1 && (sIx items.size items.size hi - sIx items.size 0 lo) == items.size) = true then _ else _) _ _ s
  rw [h0, h1]
  have hyes : ((((0 : Nat) : Int) == 0 && (1 : Int) == 1 && (items.size - 0) == items.size) = true) := by
    rw [Nat.sub_zero]
    simp
  rw [if_pos hyes]
  unfold Builtin.Tuple.tupleIsExact
  refine wpAny_bind (wpAny_bind (wpAny_typeOf ht.typeIs (wpAny_pure ?_)))
  rw [if_pos (by decide)]
  first
    | exact wpAny_bind (wpAny_rule (wpAny_bind (wpAny_pure ⟨_, rfl, wpAny_pure h⟩)))
    | exact wpAny_bind (wpAny_rule (wpAny_pure ⟨_, rfl, wpAny_pure h⟩))
    | exact wpAny_pure ⟨_, rfl, wpAny_pure h⟩
    | exact wpAny_bind (wpAny_rule (wpAny_bind (wpAny_pure (wpAny_pure ⟨_, rfl, wpAny_pure h⟩))))
    | trace_state
end
end HT
namespace Er
open PySem PySem.Spec PyProof.Rows L2
/-- t[lo:hi]: its items, as a tuple -/
def rSlW (K : PySem.W.Frag) : V → Option Int → Option Int → Hp → VK → Prop := fun x lo hi H Q => ∃ a xs, x = .ref a ∧ SqT K H a xs ∧ ∀ p H', Same H H' → SqT K H' p (cutV xs lo hi) → Q (.ref p) H'
theorem sl_tupW {X : Cx} : SlR X (rSlW X.K) := by
  intro pins s σ H x v vl vu lo hi sl Q I rx hs pl pu h
  obtain ⟨a, xs, rfl, hx, q⟩ := h
  by_cases hw : HT.sIx xs.length 0 lo = 0 ∧ HT.sIx xs.length xs.length hi = xs.length
  · cases rx
    obtain ⟨its, r, ht, hz⟩ := I.tuple hx
    have hlen : its.toArray.size = xs.length := by rw [List.size_toArray]; exact r.length.symm
    refine ⟨"tuple", _, PyProof.Rows.slot_tuple_getitem.lookup, ht.typeIs, ?_⟩
    refine HT.getItem_tuple_all ht hs pl pu (by rw [hlen]; exact hw.1) (by rw [hlen]; exact hw.2) ⟨.ref a, H, I, rfl, q a H (Same.refl _) ?_⟩
    unfold cutV
    rw [hw.1, hw.2, List.drop_zero, Nat.sub_zero, List.take_length]
    exact hx
  · exact sl_tup pins s σ H (.ref a) v vl vu lo hi sl Q I rx hs pl pu ⟨a, xs, rfl, hx, hw, fun p np => q p _ (same_new np) (SqT.of upd_same)⟩
end Er
set_option Elab.async false
set_option linter.all false
set_option maxRecDepth 100000
set_option maxHeartbeats 4000000
/-! repr of whole numbers and of tuples of them. -/
namespace Er
open PySem PySem.Spec PyProof.Rows L2
theorem shown_int (n : Int) : (PyData.int n).shown = numS n := by simp only [PyData.shown]; rfl
theorem shows_int {n : Int} (h0 : 0 ≤ n) (h1 : n ≤ 9999) : Shows (.int n) := by
  obtain ⟨k1, k2, k3⟩ := num_ok h0 h1
  refine ⟨?_, ?_, ?_⟩
  · simp only [PyData.showable]
    exact decide_eq_true k3
  · simp only [PyData.depth]
    omega
  · rw [shown_int]
    exact Nat.le_trans k1 (by decide)
theorem deep_ints : ∀ ns : List Int, PyData.depthAll (ns.map PyData.int) ≤ 5
  | [] => by simp [PyData.depthAll]
  | n :: ns => by
    have h2 := deep_ints ns
    rw [List.map_cons]
    simp only [PyData.depthAll, PyData.depth]
    omega
theorem showable_ints : ∀ ns : List Int, (∀ n ∈ ns, 0 ≤ n ∧ n ≤ 9999) → PyData.showableAll (ns.map PyData.int) = true
  | [], _ => by simp [PyData.showableAll]
  | n :: ns, h => by
    have h1 := h n (List.mem_cons_self ..)
    have h2 := (shows_int h1.1 h1.2).ok
    rw [List.map_cons]
    simp only [PyData.showableAll, h2, showable_ints ns fun y hy => h y (List.mem_cons_of_mem _ hy), Bool.and_true]
theorem shownAll_ints : ∀ ns : List Int, PyData.shownAll (ns.map PyData.int) = ns.map numS
  | [] => by simp [PyData.shownAll]
  | n :: ns => by
    rw [List.map_cons, List.map_cons]
    simp only [PyData.shownAll, shownAll_ints ns, shown_int]
theorem piled_le : ∀ ts : List Str, (∀ t ∈ ts, t.length ≤ 4) → piled ts ≤ 6 * ts.length
  | [], _ => by rw [piled_nil]; exact Nat.zero_le _
  | t :: ts, h => by
    have h1 := h t (List.mem_cons_self ..)
    have h2 := piled_le ts fun y hy => h y (List.mem_cons_of_mem _ hy)
    rw [piled_cons, List.length_cons]
    omega
theorem shows_ints {ns : List Int} (h : ∀ n ∈ ns, 0 ≤ n ∧ n ≤ 9999) (hl : ns.length ≤ 100) : Shows (.tuple (ns.map PyData.int)) := by
  refine ⟨?_, ?_, ?_⟩
  · simp only [PyData.showable]
    exact showable_ints ns h
  · have := deep_ints ns
    simp only [PyData.depth]
    omega
  · simp only [PyData.shown]
    rw [shownAll_ints]
    have hp := piled_le (ns.map numS) fun t ht => by
      obtain ⟨n, hn, rfl⟩ := List.mem_map.mp ht
      have z := h n hn
      exact (num_ok z.1 z.2).1
    rw [List.length_map] at hp
    have hj : (Str.join ", " (ns.map numS)).length ≤ 600 := by
      by_cases e : ns.map numS = []
      · rw [e]
        decide
      · have z := join_length_add _ e
        omega
    unfold tupleText
    rw [app_len, app_len]
    have h1 : ("(" : Str).length = 1 := by decide +kernel
    have h2 : (Str.ofString (if ((ns.map numS).length == 1) = true then ",)" else ")" : String)).length ≤ 2 := by
      split
      · decide +kernel
      · decide +kernel
    exact Nat.le_trans (show _ ≤ 700 by omega) (by decide)
end Er
set_option Elab.async false
set_option linter.all false
set_option maxRecDepth 100000
set_option maxHeartbeats 4000000
namespace K10
open PySem PySem.Spec PyProof.Rows L2 Er
section
variable {P : Program} {w : World} {K : PySem.W.Frag} {mg : Str → Option Value} {base : Heap} {f : Addr} {fd : FuncData}
theorem sc_is_mixed_right : FnScope ["own", "mine", "its", "dyes", "held", "place", "at", "dyed", "row_here", "deed", "due", "far", "name", "one"] ["own", "mine", "its"] (defScope s_is_mixed_right) := ⟨rfl, rfl, rfl, by decide +kernel, rfl, by decide +kernel, by decide +kernel⟩
theorem ok_is_mixed_right (T : Tx K mg) (F : FunD K "_law_is_mixed_right" "_law_is_mixed_right" (defArgs s_is_mixed_right) (defBody s_is_mixed_right) (defScope s_is_mixed_right) [] [] f fd) {fdGDy : FuncData} (GDy : FnOk P w K mg base CX0 1 (He.ga K "_law_dyes") fdGDy ["own", "its"] (spDyes K)) (GDyF : FnT K "_law_dyes" s_dyes fdGDy) (GDyB : Binds K fdGDy ["own", "its"] [])
    {fdGSs : FuncData} (GSs : FnOk P w K mg base CX0 1 (He.ga K "_law_spots") fdGSs ["own"] (spSpots K)) (GSsF : FnT K "_law_spots" s_spots fdGSs) (GSsB : Binds K fdGSs ["own"] [])
    {fdGDd : FuncData} (GDd : FnOk P w K mg base CX0 2 (He.ga K "_law_dye") fdGDd ["own", "its", "place"] (spDye K)) (GDdF : FnT K "_law_dye" s_law_dye fdGDd) (GDdB : Binds K fdGDd ["own", "its", "place"] [])
    {fdGDk : FuncData} (GDk : FnOk P w K mg base CX0 3 (He.ga K "_law_does_keep") fdGDk ["own", "its", "claim_here"] (spDoesK K)) (GDkF : FnT K "_law_does_keep" s_does_keep fdGDk) (GDkB : Binds K fdGDk ["own", "its", "claim_here"] [])
    {fdGDp : FuncData} (GDp : FnOk P w K mg base CX0 7 (He.ga K "dye") fdGDp ["yard", "row", "spot"] (spDyeP K)) (GDpF : FnT K "dye" s_dye fdGDp) (GDpB : Binds K fdGDp ["yard", "row", "spot"] [])
    {fdGSt : FuncData} (GSt : FnOk P w K mg base CX0 5 (He.ga K "still") fdGSt ["yard", "spot"] (spStill K)) (GStF : FnT K "still" s_still fdGSt) (GStB : Binds K fdGSt ["yard", "spot"] [])
    {fdGSn : FuncData} (GSn : FnOk P w K mg base CX0 7 (He.ga K "stands") fdGSn ["yard", "row", "moment"] (spStands K)) (GSnF : FnT K "stands" s_stands fdGSn) (GSnB : Binds K fdGSn ["yard", "row", "moment"] [])
    {fdGBr : FuncData} (GBr : FnOk P w K mg base CX0 7 (He.ga K "broken") fdGBr ["yard", "row"] (spBroken K)) (GBrF : FnT K "broken" s_broken fdGBr) (GBrB : Binds K fdGBr ["yard", "row"] [])
    (CL : Cls K (He.ga K "Yard")) (MB : Meth K (He.ga K "Yard") "bare" (He.ma K (He.ga K "Yard") "bare")) {fdBa : FuncData} (GBa : FnOk P w K mg base CX0 9 (He.ma K (He.ga K "Yard") "bare") fdBa ["self"] (spBare K)) (bBa : Binds K fdBa ["self"] []) : FnG P w K mg base CX0 11 f fd ["own", "mine", "its"] (spMixR K) := by
  refine okG F sc_is_mixed_right (fun vs H Q E h => ?_) (fun cdv A outer s H vs Q E hr hgd h => ?_)
  · obtain ⟨o, y, t, vn, st, sa, its, rfl, _⟩ := h
    rfl
  · obtain ⟨o, y, t, vn, st, sa, its, rfl, hO, hY, hd, hT, lT, hR, q⟩ := h
    have hr_GDy := hr.mono (by decide : 1 ≤ 10)
    have hr_GSs := hr.mono (by decide : 1 ≤ 10)
    have hr_GDd := hr.mono (by decide : 2 ≤ 10)
    have hr_GDk := hr.mono (by decide : 3 ≤ 10)
    have hr_GDp := hr.mono (by decide : 7 ≤ 10)
    have hr_GSt := hr.mono (by decide : 5 ≤ 10)
    have hr_GSn := hr.mono (by decide : 7 ≤ 10)
    have hr_GBr := hr.mono (by decide : 7 ≤ 10)
    have hr_BA := hr.mono (by decide : 9 ≤ 10)
    refine ⟨_, PSs.nox (pss_cons (ps_par (i := 3) (j := 4) (by rfl) sc_is_mixed_right.nd rfl rfl (by decide) rfl rfl (pa_cons (pe_call GDy hr_GDy (by rfl) (T.gd "_law_dyes" (mem_at 53 rfl)) GDyF.kp GDyB .nil pass0 (pa_cons (pv 0) (pa_cons (pv 2) pa_nil))) (pa_cons pe_int pa_nil)) (by rfl))
      (pss_cons (ps_for PassesOwn.never rfl (pi_list (pe_call GSs hr_GSs (by rfl) (T.gd "_law_spots" (mem_at 51 rfl)) GSsF.kp GSsB .nil pass0 (pa_cons (pv 0) pa_nil))) (pg_name (i := 5) sc_is_mixed_right.nd rfl (Or.inr rfl))
        (pss_cons (ps_if (pt_cmpR op_ne (pe_callB (call_repr T.sys hgd hr.units) (by rfl) (T.fr "repr" (mem_at 13 rfl)) (by decide +kernel) (pa_cons (pe_call GDp hr_GDp (by rfl) (T.gd "dye" (mem_at 29 rfl)) GDpF.kp GDpB .nil pass0 (pa_cons (pv 1) (pa_cons (pv 2) (pa_cons (pv 5) pa_nil)))) pa_nil)) (pe_callB (call_repr T.sys hgd hr.units) (by rfl) (T.fr "repr" (mem_at 13 rfl)) (by decide +kernel) (pa_cons (pe_call GDd hr_GDd (by rfl) (T.gd "_law_dye" (mem_at 54 rfl)) GDdF.kp GDdB .nil pass0 (pa_cons (pv 0) (pa_cons (pv 2) (pa_cons (pv 5) pa_nil)))) pa_nil)) (nomark _))
          (pss_one (ps_ret pe_bl))
          pss_nil)
        (pss_one (ps_if (pt_val (pe_callB (cr_any rfl) (by rfl) (T.fr "any" (mem_at 2 rfl)) (by decide +kernel) (pa_cons (pe_lc (own := [("far", 11)]) (g := gName 11) (tt := tYes) rfl sc_is_mixed_right.nd (pi_tup (pe_slice sl_tupW (pe_call GSt hr_GSt (by rfl) (T.gd "still" (mem_at 19 rfl)) GStF.kp GStB .nil pass0 (pa_cons (pv 1) (pa_cons (pv 5) pa_nil))) po_none (po_some pe_int))) (blkOk_by (N := ["own", "mine", "its", "dyes", "held", "place", "at", "dyed", "row_here", "deed", "due", "far", "name", "one"]) (sc := defScope s_is_mixed_right) (by decide +kernel)) (fun _ _ _ _ _ => pg_name (i := 11) sc_is_mixed_right.nd rfl (Or.inl rfl)) (fun _ _ _ _ _ => pts_nil) (fun _ _ _ _ _ => (pe_cmpR op_ne (pe_call GDp hr_GDp (by rfl) (T.gd "dye" (mem_at 29 rfl)) GDpF.kp GDpB .nil pass0 (pa_cons (pv 1) (pa_cons (pv 2) (pa_cons (pv 11) pa_nil)))) (pe_call GDp hr_GDp (by rfl) (T.gd "dye" (mem_at 29 rfl)) GDpF.kp GDpB .nil pass0 (pa_cons (pv 1) (pa_cons (pv 2) (pa_cons (pv 5) pa_nil)))) (nomark _)))) pa_nil)))
          (pss_one (ps_ret pe_bl))
          pss_nil))))
      (pss_cons (ps_for PassesOwn.never rfl (pi_enum (by rfl) (T.fr "enumerate" (mem_at 5 rfl)) (pa_cons (pv 3) pa_nil)) (pg_tup rfl (pgs_cons (pg_name (i := 6) sc_is_mixed_right.nd rfl (Or.inl rfl)) (pgs_cons (pg_name (i := 7) sc_is_mixed_right.nd rfl (Or.inr rfl)) pgs_nil)))
        (pss_cons (ps_set (i := 8) sc_is_mixed_right.nd rfl (Or.inl rfl) (pe_callTy call_tuple_of (by rfl) (T.fr "tuple" (mem_at 17 rfl)) (by decide +kernel) (pa_cons (pe_lc (own := [("name", 12)]) (g := gName 12) (tt := tYes) rfl sc_is_mixed_right.nd (pi_list (pe_dget (hu_of hr) (pv 0) pe_str (fun _ _ => rfl))) (blkOk_by (N := ["own", "mine", "its", "dyes", "held", "place", "at", "dyed", "row_here", "deed", "due", "far", "name", "one"]) (sc := defScope s_is_mixed_right) (by decide +kernel)) (fun _ _ _ _ _ => pg_name (i := 12) sc_is_mixed_right.nd rfl (Or.inl rfl)) (fun _ _ _ _ _ => pts_nil) (fun _ _ _ _ _ => (pe_dget (hu_of hr) (pv 7) (pv 12) (fun _ _ => rfl)))) pa_nil)))
        (pss_cons (ps_if (pt_cmpR op_ne (pe_callB (call_repr T.sys hgd hr.units) (by rfl) (T.fr "repr" (mem_at 13 rfl)) (by decide +kernel) (pa_cons (pe_call GSn hr_GSn (by rfl) (T.gd "stands" (mem_at 30 rfl)) GSnF.kp GSnB .nil pass0 (pa_cons (pv 1) (pa_cons (pv 2) (pa_cons (pv 6) pa_nil)))) pa_nil)) (pe_callB (call_repr T.sys hgd hr.units) (by rfl) (T.fr "repr" (mem_at 13 rfl)) (by decide +kernel) (pa_cons (pv 8) pa_nil)) (nomark _))
          (pss_one (ps_ret pe_bl))
          pss_nil)
        (pss_cons (ps_set (i := 9) sc_is_mixed_right.nd rfl (Or.inl rfl) (pe_ifExp (pt_cmpR op_gt (pv 6) pe_int (nomark _)) (pe_ix ix_list (pe_dget (hu_of hr) (pv 0) pe_str (fun _ _ => rfl)) (pe_op op_sub (pv 6) pe_int) (fun _ _ => rfl)) (pe_tup (pa_cons pe_str (pa_cons pe_int pa_nil)))))
        (pss_cons (ps_set (i := 4) sc_is_mixed_right.nd rfl (Or.inl rfl) (pe_op op_add (pv 4) (pe_ifExp (pt_cmpR op_eq (pe_ix ix_tup (pv 9) pe_int (fun _ _ => rfl)) pe_str (nomark _)) (pe_ix ix_tup (pv 9) (pe_un un_neg pe_int) (fun _ _ => rfl)) (pe_ifExp (pt_cmpR op_eq (pe_ix ix_tup (pv 9) pe_int (fun _ _ => rfl)) pe_str (nomark _)) (pe_un un_neg (pe_ix ix_tup (pv 2) (pe_op op_sub (pv 6) pe_int) (fun _ _ => rfl))) pe_int))))
        (pss_one (ps_if (pt_cmpR op_ne (pe_callB (cr_sumT rfl) (by rfl) (T.fr "sum" (mem_at 16 rfl)) (by decide +kernel) (pa_cons (pv 8) pa_nil)) (pv 4) (nomark _))
          (pss_one (ps_ret pe_bl))
          pss_nil)))))))
      (pss_cons (ps_setLc (i := 10) (own := [("at", 6), ("one", 13)]) (g := gTup K 2 (gCons (gName 6) (gCons (gName 13) gNil))) (tt := tNot (tB (tCall (spDoesK K) [] E0 (tCons (tVar 0) (tCons (tVar 2) (tCons (tVar 13) tNil)))))) rfl sc_is_mixed_right.nd rfl rfl (sw_true rfl rfl rfl (by decide +kernel)) (pi_enum (by rfl) (T.fr "enumerate" (mem_at 5 rfl)) (pa_cons (pe_dget (hu_of hr) (pv 0) pe_str (fun _ _ => rfl)) pa_nil)) (blkOk_by (N := ["own", "mine", "its", "dyes", "held", "place", "at", "dyed", "row_here", "deed", "due", "far", "name", "one"]) (sc := defScope s_is_mixed_right) (by decide +kernel)) (fun _ _ _ _ _ => pg_tup rfl (pgs_cons (pg_name (i := 6) sc_is_mixed_right.nd rfl (Or.inl rfl)) (pgs_cons (pg_name (i := 13) sc_is_mixed_right.nd rfl (Or.inl rfl)) pgs_nil))) (fun _ _ _ _ _ => (pts_one (pt_not (pt_val (pe_call GDk hr_GDk (by rfl) (T.gd "_law_does_keep" (mem_at 56 rfl)) GDkF.kp GDkB .nil pass0 (pa_cons (pv 0) (pa_cons (pv 2) (pa_cons (pv 13) pa_nil)))))))) (fun _ _ _ _ _ => (pv 6)))
      (pss_one (ps_ret (pe_and (pe_cmpR op_eq (pe_callB (call_repr T.sys hgd hr.units) (by rfl) (T.fr "repr" (mem_at 13 rfl)) (by decide +kernel) (pa_cons (pe_call GBr hr_GBr (by rfl) (T.gd "broken" (mem_at 32 rfl)) GBrF.kp GBrB .nil pass0 (pa_cons (pv 1) (pa_cons (pv 2) pa_nil))) pa_nil)) (pe_callB (call_repr T.sys hgd hr.units) (by rfl) (T.fr "repr" (mem_at 13 rfl)) (by decide +kernel) (pa_cons (pe_callTy call_tuple_of (by rfl) (T.fr "tuple" (mem_at 17 rfl)) (by decide +kernel) (pa_cons (pv 10) pa_nil)) pa_nil)) (nomark _)) (pe_one (pe_cmpR (op_eqD hr.units) (pe_call GBr hr_GBr (by rfl) (T.gd "broken" (mem_at 32 rfl)) GBrF.kp GBrB .nil pass0 (pa_cons (pe_meth0 (pv 1) CL MB GBa hr_BA bBa .nil pass0) (pa_cons (pv 2) pa_nil))) (pe_tup pa_nil) (nomark _)))))))))), ?_⟩
    obtain ⟨hV, hG, l14, ok, ndS, l6⟩ := id hd
    obtain ⟨nodup, vne, v6, vok⟩ := id hV
    have hst : AllSt vn st := (hG.minv v6).1
    have hMx : MixOk vn st its := mix_row hst lT hR
    have hM : MixAt K H y t vn st sa its := ⟨hY, hst, vne, v6, hT, hMx⟩
    have ldy : (dyedS st its).length = st.length := by rw [dyedS_len, lT, Nat.min_self]
    refine i_par (i_cons (i_call (i_cons (i_var rfl (i_cons (i_var rfl (i_nil ⟨o, t, vn, st, sa, its, rfl, hO, hT, nodup, hst, by omega, by omega, fun pd rs H1 s1 np ep hp => i_cons (i_c (i_nil ⟨_, _, rfl, ?_⟩))⟩)))))))
    refine i_for (i_call (i_cons (i_var rfl (i_nil ⟨o, vn, st, sa, rfl, hO.same s1, v6, l14, fun ps xs H2 s2 nps eps hS2 => ⟨ps, rfl, ⟨_, SqL.of eps⟩, ?_⟩⟩))))
    have s12 := s1.trans s2
    have allok : ∀ s ∈ spotsB st.length ++ spotsI vn st.length, ∃ m : Int, s.2 = some m ∧ spotB vn (st.length : Nat) (some m) s.1 = true := fun s hs => (List.mem_append.mp hs).elim (fun h => spotsB_ok s h) fun h => spotsI_ok s h
    refine fr_it (walk_list (K := K) (a := ps) (xs := xs)) (fun i σ H3 => ∃ x5, σ = [some (.ref o), some (.ref y), some (.ref t), some (.ref pd), some (.int 0), x5, none, none, none, none, none, none, none, none] ∧ Same H2 H3) ?_ (fun i σ H3 _ hP => ?_) (fun i x σ H3 H4 hi hP hy3 => ?_) (fun σ H3 hP => ?_)
    · exact ⟨none, rfl, Same.refl _⟩
    · obtain ⟨x5, rfl, s3⟩ := hP
      exact SqL.of (s3 _ _ eps)
    · obtain ⟨x5, rfl, s3⟩ := hP
      obtain ⟨rfl, hx⟩ := hy3
      have hi2 : i < (spotsB st.length ++ spotsI vn st.length).length := by
        rw [← hS2.1]
        exact hi
      obtain ⟨r, hr1, hP0⟩ := hS2.2 i _ (List.getElem?_eq_getElem hi2)
      obtain ⟨m, em, hb⟩ := allok _ (List.getElem_mem hi2)
      obtain rfl : x = .ref r := Option.some.inj (hx.symm.trans hr1)
      generalize (spotsB st.length ++ spotsI vn st.length)[i] = sp at hP0 em hb
      obtain ⟨ws, o2⟩ := sp
      cases (show o2 = some m from em)
      have hb : spotB vn (st.length : Nat) (some m) ws = true := hb
      have hP0 : SqT K H2 r (wv ws (some m)) := hP0
      have t3 := s12.trans s3
      have db := dye_bound v6 hG l14 lT hR hb
      refine i_if0 (i_test (i_op (i_cb (i_cons (i_call (i_cons (i_var rfl (i_cons (i_var rfl (i_cons (i_var rfl (i_nil ⟨y, t, r, vn, st, sa, its, ws, m, rfl, hM.same t3, sameT s3 hP0, hb, fun H5 s5 => i_nil ⟨.int (dyeS vn st its ws m), .int (dyeS vn st its ws m), rfl, .int _, shows_int (by omega) (by omega), ?_⟩⟩))))))))))))
      have t5 := t3.trans s5
      refine i_cb (i_cons (i_call (i_cons (i_var rfl (i_cons (i_var rfl (i_cons (i_var rfl (i_nil ⟨o, t, r, vn, st, sa, its, ws, m, rfl, hO.same t5, sameT t5 hT, lT, nodup, hst, l14, v6, sameT (s3.trans s5) hP0, hb, fun H6 s6 => i_nil ⟨.int (dyeS vn st its ws m), .int (dyeS vn st its ws m), rfl, .int _, shows_int (by omega) (by omega), r_neS ⟨_, rfl, ?_⟩⟩⟩)))))))))
      rw [decide_eq_false (fun z => z rfl)]
      refine iteF ?_
      have t6 := t5.trans s6
      have s36 := (s3.trans s5).trans s6
      have hP6 := sameT s36 hP0
      refine i_if1 (i_B (i_cb (i_cons (i_lc (i_call (i_cons (i_var rfl (i_cons (i_var rfl (i_nil ⟨y, r, vn, st, sa, ws, m, rfl, hY.same t6, hst, hP6, hb, fun tt xs2 L H7 s7 hT7 hS7 hL7 same7 => ⟨2, rfl, tt, xs2, rfl, hT7, fun p2 H8 s8 hp2 => ⟨p2, rfl, ⟨_, hp2⟩, fun Dl nD => ?_⟩⟩⟩))))))))))
      have t8 := (t6.trans s7).trans s8
      have l8 : (cutV xs2 none (some 2)).length ≤ 1000 := Nat.le_trans (cutV_length _ _ _) (by rw [hS7.1]; exact hL7)
      refine lr_map walk_tup ((cutV xs2 none (some 2)).map fun _ => V.bl false) (List.length_map ..) (by omega) nD (fun _ s => sameT s hp2) (fun i x H9 H10 v hv s9 hy Q' kq => ?_) (fun _ _ _ => gName_mono) (fun H9 e9 s9 => ?_)
      · obtain ⟨rfl, hy⟩ := hy
        rw [List.getElem?_map, hy] at hv
        cases Option.some.inj hv
        have hmem : x ∈ xs2 := by
          have z := List.mem_of_getElem? hy
          unfold cutV at z
          exact List.mem_of_mem_drop (List.mem_of_mem_take z)
        obtain ⟨j, hj⟩ := List.getElem?_of_mem hmem
        have hjL : j < L.length := by
          rw [← hS7.1]
          exact (List.getElem?_eq_some_iff.mp hj).1
        obtain ⟨r2, hr2, hP2⟩ := hS7.2 j _ (List.getElem?_eq_getElem hjL)
        obtain ⟨m2, em2, hb2, sm2⟩ := same7 _ (List.getElem_mem hjL)
        obtain rfl : x = .ref r2 := Option.some.inj (hj.symm.trans hr2)
        rw [em2] at hP2
        have t9 := t8.trans s9
        refine ⟨rfl, i_op (i_call (i_cons (i_var rfl (i_cons (i_var rfl (i_cons (i_var rfl (i_nil ⟨y, t, r2, vn, st, sa, its, _, m2, rfl, hM.same t9, sameT (s8.trans s9) hP2, hb2, fun H11 s11 => i_call (i_cons (i_var rfl (i_cons (i_var rfl (i_cons (i_var rfl (i_nil ⟨y, t, r, vn, st, sa, its, ws, m, rfl, hM.same (t9.trans s11), sameT (((s7.trans s8).trans s9).trans s11) hP6, hb, fun H12 s12 => r_neI ?_⟩)))))))⟩))))))))⟩
        rw [sm2 its lT, decide_eq_false (fun z => z rfl)]
        exact kq _ (s11.trans s12)
      · refine i_nil ⟨Dl, (cutV xs2 none (some 2)).map fun _ => false, rfl, SqL.of (by rw [e9, List.map_map]; rfl), ?_⟩
        have ea : ((cutV xs2 none (some 2)).map fun _ => false).any id = false := by
          rw [List.any_map]
          exact List.any_eq_false.mpr fun _ _ => (fun z => nomatch z)
        rw [ea]
        exact ⟨_, rfl, iteF ⟨_, rfl, (((s36.trans s7).trans s8).trans s9)⟩⟩
    · obtain ⟨x5, rfl, s3⟩ := hP
      have t3 := s12.trans s3
      obtain ⟨a, b, c, us, ws0, hO0, hA, hB, hS, hC, hW⟩ := hO
      have lrs : rs.length = st.length + 1 := by
        rw [pr_len hp]
        unfold levsOf
        rw [List.length_map, List.length_range, ldy]
      have ep3 := s2.trans s3 |> fun z => z _ _ ep
      refine i_for (i_cons (i_var rfl (i_nil ⟨pd, rs.map V.ref, rfl, SqL.of ep3, ?_⟩)))
      refine fr_enum (K := K) (a := pd) (xs := rs.map V.ref) (fun i σ H4 => ∃ x6 x7 x8 x9, σ = [some (.ref o), some (.ref y), some (.ref t), some (.ref pd), some (.int (heldTo st its (i - 1))), x5, x6, x7, x8, x9, none, none, none, none] ∧ Same H3 H4) ?_ (fun i σ H4 _ hP => ?_) (fun i x σ H4 hx hP T nT => ?_) (fun σ H4 hP => ?_)
      · exact ⟨none, none, none, none, rfl, Same.refl _⟩
      · obtain ⟨x6, x7, x8, x9, rfl, s4⟩ := hP
        exact SqL.of (s4 _ _ ep3)
      · obtain ⟨x6, x7, x8, x9, rfl, s4⟩ := hP
        have hi : i ≤ st.length := by
          have z := (List.getElem?_eq_some_iff.mp hx).1
          rw [List.length_map, lrs] at z
          omega
        obtain ⟨rd, hrd, hdd⟩ := pr_at (i := i) (y := levAt vn ((dyedS st its).take i)) hp (levs_at (by omega))
        rw [List.getElem?_map, hrd] at hx
        cases Option.some.inj hx
        have lD : (levAt vn ((dyedS st its).take i)).length = vn.length := levAt_len
        have bD := lev_bound hG l14 lT hR hi
        have hSum := held_eq hst lT hR i hi
        refine ⟨T, _, rfl, SqT.of upd_same, rfl, _, _, rfl, ?_⟩
        refine ⟨_, _, rfl, rfl, ?_⟩
        have s5 := s4.trans (same_new (o := .tup [.int (i : Nat), .ref rd]) nT)
        generalize upd H4 T (.tup [.int (i : Nat), .ref rd]) = H5 at s5 ⊢
        have t5 := t3.trans s5
        have hd5 := (s2.trans (s3.trans s5)) _ _ hdd
        generalize hDD : levAt vn ((dyedS st its).take i) = D at lD bD hSum hd5
        refine i_set (i_cb (i_cons (i_lc ⟨_, rfl, o, _, rfl, get_dk (k := .inr "vessels") (t5 _ _ hO0) (own_a a b c), a, rfl, ⟨_, t5.seq hA⟩, fun Dl nD => ?_⟩)))
        have lvn : (sV vn).length = vn.length := sV_len vn
        refine lr_map (walk_list (K := K) (a := a) (xs := sV vn)) (vn.map fun x => V.int (D.getD (vn.idxOf x) 0)) (by rw [List.length_map, lvn]) (by rw [lvn]; omega) nD (fun H6 s => s.seq (t5.seq hA)) (fun j x H6 H7 v hv s6 hy Q' kq => ?_) (fun _ _ _ => gName_mono) (fun H6 e6 s6 => ?_)
        · obtain ⟨rfl, hy⟩ := hy
          unfold sV at hy
          rw [List.getElem?_map] at hv hy
          obtain ⟨nm, hnm, rfl⟩ := Option.map_eq_some_iff.mp hv
          rw [hnm] at hy
          cases Option.some.inj hy
          exact ⟨rfl, i_dget ⟨_, rfl, _, rfl, rd, _, rfl, get_dk (k := .inr nm) (s6 _ _ hd5) (kv_get lD (List.mem_of_getElem? hnm)), kq _ (Same.refl _)⟩⟩
        have eDv : (vn.map fun x => V.int (D.getD (vn.idxOf x) 0)) = iV D := by
          have z := congrArg (List.map V.int) (names_vals nodup lD)
          rw [List.map_map] at z
          exact z
        rw [eDv] at e6
        refine i_nil ⟨Dl, iV D, rfl, .inl ⟨SqL.of e6, fun pr npr => ?_⟩⟩
        have s7 := s6.trans (same_new (o := .tup (iV D)) npr)
        have hpr : SqT K (upd H6 pr (.tup (iV D))) pr (iV D) := SqT.of upd_same
        generalize upd H6 pr (.tup (iV D)) = H7 at s7 hpr ⊢
        have t7 := t5.trans s7
        have l100 : D.length ≤ 100 := by rw [lD]; omega
        refine i_if0 (i_test (i_op (i_cb (i_cons (i_call (i_cons (i_var rfl (i_cons (i_var rfl (i_cons (i_var rfl (i_nil ⟨y, t, i, vn, st, sa, its, rfl, hM.same t7, hi, fun p3 H8 s8 hp3 => i_nil ⟨.ref p3, .tuple (D.map PyData.int), rfl, .tup (by rw [hDD] at hp3; exact hp3) (shAll_iV _), shows_ints bD l100, i_cb (i_cons (i_var rfl (i_nil ⟨.ref pr, .tuple (D.map PyData.int), rfl, .tup (sameT s8 hpr) (shAll_iV _), shows_ints bD l100, r_neS ⟨_, rfl, ?_⟩⟩)))⟩⟩))))))))))))
        rw [decide_eq_false (fun z => z rfl)]
        have t8 := t7.trans s8
        have hpr8 := sameT s8 hpr
        refine iteF (i_set (cut_te (R := fun v H9 => ∃ rdd ws n, v = .ref rdd ∧ Same H8 H9 ∧ SqT K H9 rdd (wv ws (some n)) ∧ (∃ k rest, ws = k :: rest) ∧ heldTo st its i = heldTo st its (i - 1) + heldBy ws n (its.getD (i - 1) 0) ∧ (ws.headD "" = ("draw" : Str) → 0 < i)) (fun Q' kq => ?_) fun v H9 hv => ?_))
        · refine i_ifx (i_test (i_op ⟨_, rfl, i_c ⟨_, _, rfl, rfl, _, rfl, ite2 (fun e => ?_) (fun e => ?_)⟩⟩))
          · have ip := of_decide_eq_true e
            obtain ⟨ws, n, hs0, hb0⟩ := step_at (vn := vn) (i := i - 1) hst (by omega)
            obtain ⟨r, hr1, hT1⟩ := hS.2 (i - 1) _ hs0
            have hat : atI us ((i : Int) - 1) = some (.ref r) := by
              have z := atI_nat hr1
              rw [show ((i - 1 : Nat) : Int) = (i : Int) - 1 by omega] at z
              exact z
            refine i_op (i_dget ⟨_, rfl, i_c ⟨o, _, rfl, get_dk (k := .inr "steps") (t8 _ _ hO0) (own_b a b c), i_op ⟨_, rfl, i_c ⟨_, _, rfl, rfl, b, us, (i : Int) - 1, .ref r, rfl, rfl, t8.seq hB, hat, kq _ _ ⟨r, ws, n, rfl, Same.refl _, sameT t8 hT1, ?_, ?_, fun _ => by omega⟩⟩⟩⟩⟩)
            · obtain ⟨_, hc⟩ := step_cases hb0
              rcases hc with ⟨x, hx, rfl | rfl | rfl⟩ | ⟨x, z, hx, hz, _, rfl⟩ <;> exact ⟨_, _, rfl⟩
            · have ei : i = (i - 1) + 1 := by omega
              have eg : st.getD (i - 1) ([], none) = (ws, some n) := by
                rw [List.getD_eq_getElem?_getD, hs0]
                rfl
              have z : heldTo st its ((i - 1) + 1) = heldTo st its (i - 1) + heldBy (st.getD (i - 1) ([], none)).1 ((st.getD (i - 1) ([], none)).2.getD 0) (its.getD (i - 1) 0) := rfl
              rw [eg, ← ei] at z
              exact z
          · have i0 : i = 0 := by
              have z : ¬ (0 : Int) < (i : Nat) := fun w => e (decide_eq_true w)
              omega
            subst i0
            refine i_tup (i_cons (i_c (i_cons (i_c (i_nil ⟨by show 2 ≤ sizeLine; decide, fun pf npf => kq _ _ ⟨pf, ["fill"], 0, rfl, same_new npf, SqT.of upd_same, ⟨_, _, rfl⟩, ?_, fun z => absurd z (by decide +kernel)⟩⟩)))))
            have eh : heldBy ["fill"] 0 (its.getD (0 - 1) 0) = 0 := (if_neg (show ¬ ("fill" : Str) = "dye" by decide +kernel)).trans (if_neg (show ¬ ("fill" : Str) = "draw" by decide +kernel))
            rw [eh]
            rfl
        obtain ⟨rdd, ws, n, rfl, s9, hTd, ⟨k, rest, rfl⟩, hheld, hdraw⟩ := hv
        have t9 := t8.trans s9
        refine i_set (i_op ⟨_, rfl, cut_te (R := fun v H' => v = .int (heldBy (k :: rest) n (its.getD (i - 1) 0)) ∧ H' = H9) (fun Q' kq => ?_) fun v H' hv => ?_⟩)
        · refine i_ifx (i_test (i_op ⟨_, rfl, i_c (r_ixT hTd (at_0 _ _) (i_c (r_eqS ⟨_, rfl, ite2 (fun e => ?_) (fun e => ?_)⟩)))⟩))
          · have ek : k = ("dye" : Str) := of_decide_eq_true e
            exact ⟨_, rfl, 1, rfl, r_ixT hTd (at_last _ _) (kq _ _ ⟨congrArg V.int (if_pos ek).symm, rfl⟩)⟩
          · have ek : ¬ k = ("dye" : Str) := fun z => e (decide_eq_true z)
            refine i_ifx (i_test (i_op ⟨_, rfl, i_c (r_ixT hTd (at_0 _ _) (i_c (r_eqS ⟨_, rfl, ite2 (fun e2 => ?_) (fun e2 => ?_)⟩)))⟩))
            · have ek2 : k = ("draw" : Str) := of_decide_eq_true e2
              have ip := hdraw ek2
              have hat : atI (iV its) ((i : Int) - 1) = some (.int (its.getD (i - 1) 0)) := by
                have z := atI_nat (iV_at (D := its) (j := i - 1) (by omega))
                rw [show ((i - 1 : Nat) : Int) = (i : Int) - 1 by omega] at z
                exact z
              refine i_op ⟨_, rfl, i_op ⟨_, rfl, i_c ⟨_, _, rfl, rfl, r_ixT (sameT t9 hT) hat ⟨_, rfl, kq _ _ ⟨congrArg V.int ?_, rfl⟩⟩⟩⟩⟩
              exact ((if_neg ek).trans (if_pos ek2)).symm
            · have ek2 : ¬ k = ("draw" : Str) := fun z => e2 (decide_eq_true z)
              exact i_c (kq _ _ ⟨congrArg V.int ((if_neg ek).trans (if_neg ek2)).symm, rfl⟩)
        obtain ⟨rfl, rfl⟩ := hv
        refine ⟨_, _, rfl, rfl, ?_⟩
        dsimp only
        rw [← hheld]
        refine i_if1 (i_test (i_op (i_cb (i_cons (i_var rfl (i_nil ⟨pr, D, rfl, sameT s9 hpr8, ⟨_, rfl, r_neI ⟨_, rfl, ?_⟩⟩⟩))))))
        rw [hSum, decide_eq_false (fun z => z rfl)]
        exact iteF ⟨_, _, _, _, rfl, ((s5.trans s7).trans s8).trans s9⟩
      · obtain ⟨x6, x7, x8, x9, rfl, s4⟩ := hP
        have t4 := t3.trans s4
        have lws : ws0.length = sa.length := hW.length
        have nvt : ∀ i : Nat, nV (brokeTo vn st its sa i) = iV ((brokeTo vn st its sa i).map fun (n : Nat) => (n : Int)) := fun i => by
          unfold nV iV
          rw [List.map_map]
          rfl
        have nvb : ∀ x ∈ (brokeTo vn st its sa sa.length).map (fun (n : Nat) => (n : Int)), 0 ≤ x ∧ x ≤ 9999 := fun x hx => by
          obtain ⟨j, hj, rfl⟩ := List.mem_map.mp hx
          have z := List.mem_range.mp (List.mem_filter.mp hj).1
          omega
        have nvl : ((brokeTo vn st its sa sa.length).map (fun (n : Nat) => (n : Int))).length ≤ 100 := by
          rw [List.length_map]
          exact Nat.le_trans brokeTo_len (by omega)
        refine i_set (i_lc (i_cons ⟨_, rfl, o, _, rfl, get_dk (k := .inr "samples") (t4 _ _ hO0) (own_c a b c), i_nil ⟨c, ws0, rfl, t4.seq hC, fun Dl nD => ?_⟩⟩))
        refine lr_it walk_enum (fun i H5 => Same H4 H5 ∧ H5 Dl = some (.lst (nV (brokeTo vn st its sa i)))) ⟨same_new nD, upd_same⟩ (fun i H5 _ p => (t4.trans p.1).seq hC) (fun i x H5 H6 hi p y0 => ?_) (fun H5 p => ?_)
        · obtain ⟨s5, e5⟩ := p
          obtain ⟨Tp, u, v, rfl, nT, rfl, hu, hv⟩ := y0
          cases Option.some.inj hu
          have hi2 : i < sa.length := by omega
          have hz : sa[i]? = some (sa.getD i none) := by rw [List.getD_eq_getElem?_getD, List.getElem?_eq_getElem hi2]; rfl
          obtain ⟨v2, hv2, hzv⟩ := paired_at2 hW hz
          obtain rfl : v = v2 := Option.some.inj ((show ws0[i]? = some v from hv).symm.trans hv2)
          have hzb := ok _ (List.mem_of_getElem? hz)
          have s6 : Same H5 (upd H5 Tp (.tup [.int (i : Nat), v])) := same_new nT
          have t6 := (t4.trans s5).trans s6
          refine ⟨Tp, _, rfl, SqT.of upd_same, rfl, _, _, rfl, ?_⟩
          refine ⟨_, _, rfl, rfl, rfl, ?_⟩
          refine i_not (i_B (i_call (i_cons (i_var rfl (i_cons (i_var rfl (i_cons (i_var rfl (i_nil ⟨o, t, v, vn, st, sa, its, _, rfl, OwnAt.same t6 ⟨a, b, c, us, ws0, hO0, hA, hB, hS, hC, hW⟩, sameT t6 hT, lT, nodup, hst, l14, v6, hzv.same t6, hzb, fun H7 s7 => ⟨_, rfl, ?_⟩⟩)))))))))
          have e7 := s7 _ _ (s6 _ _ e5)
          have s67 := (s5.trans s6).trans s7
          have e8 := brokeTo_succ (vn := vn) (st := st) (its := its) (sa := sa) (i := i)
          cases hk : keepS vn st its (sa.getD i none) with
          | false =>
            rw [hk, if_neg (by decide)] at e8
            refine iteT ⟨_, rfl, _, e7, ?_, same_mut s67 nD, ?_⟩
            · unfold nV
              rw [List.length_map]
              exact Nat.lt_of_le_of_lt (Nat.le_trans brokeTo_len (by omega : i ≤ 1000)) (by decide)
            · rw [upd_same, e8]
              unfold nV
              rw [List.map_append]
              rfl
          | true =>
            rw [hk, if_pos rfl, List.append_nil] at e8
            refine iteF ⟨s67, ?_⟩
            rw [e8]
            exact e7
        · obtain ⟨s5, e5⟩ := p
          rw [lws, nvt] at e5
          have t5 := t4.trans s5
          refine i_ret (i_andV (i_op (i_cb (i_cons (i_call (i_cons (i_var rfl (i_cons (i_var rfl (i_nil ⟨y, t, vn, st, sa, its, rfl, hM.same t5, ok, fun p H6 s6 hp6 => i_nil ⟨.ref p, .tuple (((brokeTo vn st its sa sa.length).map (fun (n : Nat) => (n : Int))).map PyData.int), rfl, .tup (by rw [nvt] at hp6; exact hp6) (shAll_iV _), shows_ints nvb nvl, i_cb (i_cons (i_cb (i_cons (i_var rfl (i_nil ⟨Dl, _, rfl, .inl ⟨SqL.of (s6 _ _ e5), fun p2 np2 => i_nil ⟨.ref p2, .tuple (((brokeTo vn st its sa sa.length).map (fun (n : Nat) => (n : Int))).map PyData.int), rfl, .tup (SqT.of upd_same) (shAll_iV _), shows_ints nvb nvl, r_eqS ⟨_, rfl, ?_⟩⟩⟩⟩)))))⟩⟩))))))))))
          rw [decide_eq_true rfl]
          have t6 := (t5.trans s6).trans (same_new (o := .tup (iV ((brokeTo vn st its sa sa.length).map (fun (n : Nat) => (n : Int))))) np2)
          have hY6 := hY.same t6
          obtain ⟨dxy, fsy, hyy, lob⟩ := hY6.bare
          refine iteT (i_op (i_call (i_cons ⟨_, rfl, y, dxy, fsy, rfl, hyy, lob, i_nil ⟨y, vn, st, sa, rfl, hY6, hV, hG, fun y2 H7 s7 hY7 => i_cons (i_var rfl (i_nil ⟨y2, t, vn, st, [], its, rfl, ⟨hY7, hst, vne, v6, sameT (t6.trans s7) hT, hMx⟩, (fun z hz => nomatch hz), fun p8 H8 s8 hp8 => i_tup (i_nil ⟨by show 0 ≤ sizeLine; decide, fun pe ne => ?_⟩)⟩))⟩⟩)))
          exact eq_unit (sameT (same_new ne) hp8) (SqT.of upd_same) (q _ (((t6.trans s7).trans s8).trans (same_new ne)))
end
end K10
set_option Elab.async false
set_option linter.all false
set_option maxRecDepth 100000
set_option maxHeartbeats 4000000
/-! One of some numbers that are written out; a Yard beside a pot. -/
namespace Er
open PySem PySem.Spec PyProof.Rows L2
def tInts : List Int → TA
  | [] => tNil
  | n :: r => tCons (tC (.int n)) (tInts r)
theorem i_ints {σ : L2.St} {H : Hp} : ∀ (ns : List Int) {Q : List V → Hp → Prop}, Q (ns.map V.int) H → tInts ns σ H Q
  | [], _, q => q
  | n :: r, Q, q => i_ints (Q := fun vs H1 => Q (.int n :: vs) H1) r q
theorem i_drawn {K : PySem.W.Frag} {σ : L2.St} {H : Hp} {Q : VK} {i : Nat} {p : Addr} {n : Int} (ns : List Int) (e : σ[i]? = some (some (.ref p))) (hP : Pot H p n) (hn : n < 100000) (h0 : 0 < ns.length) (h1 : ns.length ≤ 1000)
    (k : ∀ m H', m ∈ ns → Same (But H p) (But H' p) → Pot H' p (n + 1) → Q (.int m) H') : tCall (spOf K) [] E0 (tCons (tVar i) (tCons (tLst (tInts ns)) tNil)) σ H Q := by
  have lm : (ns.map V.int).length = ns.length := List.length_map ..
  refine i_call (i_cons (i_var e (i_cons (i_lst (i_ints ns ⟨?_, fun l nl => i_nil ⟨p, l, ns.map V.int, n, rfl, ?_, by rw [lm]; exact h0, by rw [lm]; exact h1, hP.sameH (same_new nl), hn, fun H' v s hP' hv => ?_⟩⟩)))))
  · rw [lm]
    exact Nat.le_trans h1 (by decide)
  · have d1 : l ≠ p := fun z => pot_some hP (z ▸ nl)
    exact SqL.of ((del_ne d1).trans upd_same)
  · obtain ⟨m, hm, rfl⟩ := List.mem_map.mp hv
    exact k m H' hm ((same_but (same_new nl)).trans s) hP'
theorem but_keep {K : PySem.W.Frag} {H : Hp} {p : Addr} {ys : List V} (h : H p = some (.lst ys)) : KeepT K H (But H p) := fun r xs q => by
  rcases q with (q | ⟨u, q⟩) | q
  · exact .inl (.inl ((del_ne (fun z => by rw [z, h] at q; cases q)).trans q))
  · exact .inl (.inr ⟨u, (del_ne (fun z => by rw [z, h] at q; cases q)).trans q⟩)
  · exact .inr q
theorem but_tupD {K : PySem.W.Frag} {H : Hp} {p q : Addr} {ys : List V} (h : H p = some (.lst ys)) (t : TupD K H q) : TupD K (But H p) q := by
  rcases t with t | ⟨o, u, e, c⟩
  · exact .inl t
  · exact .inr ⟨o, u, (del_ne (fun z => by rw [z, h] at e; cases e)).trans e, c⟩
theorem YardG.but {K : PySem.W.Frag} {H : Hp} {y p : Addr} {n : Int} {vn : List Str} {st : List StepT} {sa : List SampT} (hP : Pot H p n) (h : YardG K H y vn st sa) : YardG K (But H p) y vn st sa := by
  obtain ⟨ys, hp⟩ : ∃ ys, H p = some (.lst ys) := by
    obtain ⟨a, b, c, e, _⟩ := hP
    exact ⟨_, e⟩
  obtain ⟨x, dx, fs, a, b, c, d, e, es, h1, h2, h3, h4, h5, h6, h7, h8, h9, h10, h11⟩ := h
  exact ⟨x, dx, fs, a, b, c, d, e, es, (del_ne (fun z => by rw [z, hp] at h1; cases h1)).trans h1, h2, h3, h4, h5, h6, h7, h8, h9.keep (but_keep hp) (but_tupD hp), but_keep hp _ _ h10, h11.keep (but_keep hp)⟩
def spRightG : Sp := fun vs H Q _ => ∃ p : Addr, vs = [.ref p] ∧ Pot H p 0 ∧ ∀ H' : Hp, Same (But H p) (But H' p) → Q (.bl true) H'
def spLawG (K : PySem.W.Frag) : Sp := fun vs H Q _ => ∃ (a : Addr) (ns : List Int), vs = [.ref a] ∧ SqL K H a (ns.map V.int) ∧ ns.length ≤ 63 ∧ ∀ H', Q (.bl true) H'
end Er
set_option Elab.async false
set_option linter.all false
set_option maxRecDepth 100000
set_option maxHeartbeats 4000000
namespace K10
open PySem PySem.Spec PyProof.Rows L2 Er
section
variable {P : Program} {w : World} {K : PySem.W.Frag} {mg : Str → Option Value} {base : Heap} {f : Addr} {fd : FuncData}
theorem sc_light : FnScope ["pot", "tops", "few"] ["pot"] (defScope s_light) := ⟨rfl, rfl, rfl, by decide +kernel, rfl, by decide +kernel, by decide +kernel⟩
theorem ok_light (T : Tx K mg) (F : FunD K "_law_light" "_law_light" (defArgs s_light) (defBody s_light) (defScope s_light) [] [] f fd) {fdGOf : FuncData} (GOf : FnOk P w K mg base CX0 2 (He.ga K "_law_of") fdGOf ["pot", "some"] (spOf K)) (GOfF : FnT K "_law_of" s_of fdGOf) (GOfB : Binds K fdGOf ["pot", "some"] [])
    {fdGOw : FuncData} (GOw : FnOk P w K mg base CX0 4 (He.ga K "_law_own") fdGOw ["pot", "tops", "few", "upper", "great"] (spOwnG K)) (GOwF : FnT K "_law_own" s_own fdGOw) (GOwB : Binds K fdGOw ["pot", "tops", "few", "upper", "great"] []) : FnOk P w K mg base CX0 5 f fd ["pot"] (spLight K) := by
  refine F.ok sc_light (fun vs H Q E h => ?_) (fun cdv A outer s H vs Q E hr h => ?_)
  · obtain ⟨p, n, rfl, hP, hn, q⟩ := h
    rfl
  · obtain ⟨p, n, rfl, hP, hn, q⟩ := h
    have hr_GOf := hr.mono (by decide : 2 ≤ 4)
    have hr_GOw := hr
    refine ⟨_, PSs.nox (pss_cons (ps_par (i := 1) (j := 2) (by rfl) sc_light.nd rfl rfl (by decide) rfl rfl (pa_cons (pe_call GOf hr_GOf (by rfl) (T.gd "_law_of" (mem_at 42 rfl)) GOfF.kp GOfB .nil pass0 (pa_cons (pv 0) (pa_cons (pe_lst (pa_cons pe_int (pa_cons pe_int (pa_cons pe_int (pa_cons pe_int pa_nil))))) pa_nil))) (pa_cons (pe_call GOf hr_GOf (by rfl) (T.gd "_law_of" (mem_at 42 rfl)) GOfF.kp GOfB .nil pass0 (pa_cons (pv 0) (pa_cons (pe_lst (pa_cons pe_int (pa_cons pe_int (pa_cons pe_int (pa_cons pe_int (pa_cons pe_int pa_nil)))))) pa_nil))) pa_nil)) (by rfl))
      (pss_one (ps_ret (pe_call GOw hr_GOw (by rfl) (T.gd "_law_own" (mem_at 47 rfl)) GOwF.kp GOwB .nil pass0 (pa_cons (pv 0) (pa_cons (pv 1) (pa_cons (pv 2) (pa_cons (pe_call GOf hr_GOf (by rfl) (T.gd "_law_of" (mem_at 42 rfl)) GOfF.kp GOfB .nil pass0 (pa_cons (pv 0) (pa_cons (pe_lst (pa_cons pe_int (pa_cons pe_int (pa_cons pe_int (pa_cons pe_int pa_nil))))) pa_nil))) (pa_cons pe_int pa_nil))))))))), ?_⟩
    refine i_par (i_cons (i_drawn [3, 3, 3, 6] rfl hP (by omega) (by decide) (by decide) fun tp H1 htp b1 hP1 => i_cons (i_drawn [3, 3, 3, 4, 0] rfl hP1 (by omega) (by decide) (by decide) fun fw H2 hfw b2 hP2 => i_nil ⟨_, _, rfl, ?_⟩)))
    simp only [List.mem_cons, List.not_mem_nil, or_false] at htp hfw
    refine i_ret (i_call (i_cons (i_var rfl (i_cons (i_var rfl (i_cons (i_var rfl (i_cons (i_drawn [4, 5, 5, 6] rfl hP2 (by omega) (by decide) (by decide) fun u H3 hu b3 hP3 => ?_)))))))))
    simp only [List.mem_cons, List.not_mem_nil, or_false] at hu
    refine i_cons (i_c (i_nil ⟨p, tp, fw, u, 4, _, rfl, by omega, by omega, by omega, by omega, by omega, by decide, by decide, hP3, by omega, fun H4 po pn vn st b4 hP4 hO hV hG hl => ?_⟩))
    refine q H4 po pn vn st (((b1.trans b2).trans b3).trans b4) ?_ hO hV hG (by omega)
    rw [show n + 203 = n + 1 + 1 + 1 + 200 by omega]
    exact hP4
theorem sc_right : FnScope ["pot", "own", "mine", "lap"] ["pot"] (defScope s_right) := ⟨rfl, rfl, rfl, by decide +kernel, rfl, by decide +kernel, by decide +kernel⟩
theorem ok_right (T : Tx K mg) (F : FunD K "_law_right" "_law_right" (defArgs s_right) (defBody s_right) (defScope s_right) [] [] f fd) {fdGSd : FuncData} (GSd : FnOk P w K mg base CX0 4 (He.ga K "_law_sampled") fdGSd ["pot", "own", "top", "far"] (spSampled K)) (GSdF : FnT K "_law_sampled" s_sampled fdGSd) (GSdB : Binds K fdGSd ["pot", "own", "top", "far"] [])
    {fdGLi : FuncData} (GLi : FnOk P w K mg base CX0 5 (He.ga K "_law_light") fdGLi ["pot"] (spLight K)) (GLiF : FnT K "_law_light" s_light fdGLi) (GLiB : Binds K fdGLi ["pot"] [])
    {fdGYd : FuncData} (GYd : FnOk P w K mg base CX0 8 (He.ga K "_law_yard") fdGYd ["own"] (spYardL K)) (GYdF : FnT K "_law_yard" s_yard fdGYd) (GYdB : Binds K fdGYd ["own"] [])
    {fdGMi : FuncData} (GMi : FnOk P w K mg base CX0 3 (He.ga K "_law_mixed") fdGMi ["pot", "own"] (spMixed K)) (GMiF : FnT K "_law_mixed" s_mixed fdGMi) (GMiB : Binds K fdGMi ["pot", "own"] [])
    {fdQMr : FuncData} (QMr : FnG P w K mg base CX0 11 (He.ga K "_law_is_mixed_right") fdQMr ["own", "mine", "its"] (spMixR K)) (QMrF : FnT K "_law_is_mixed_right" s_is_mixed_right fdQMr) (QMrB : Binds K fdQMr ["own", "mine", "its"] []) : FnG P w K mg base CX0 12 f fd ["pot"] (spRightG) := by
  refine okG F sc_right (fun vs H Q E h => ?_) (fun cdv A outer s H vs Q E hr hgd h => ?_)
  · obtain ⟨p, rfl, hP, q⟩ := h
    rfl
  · obtain ⟨p, rfl, hP, q⟩ := h
    have hr_GSd := hr.mono (by decide : 4 ≤ 11)
    have hr_GLi := hr.mono (by decide : 5 ≤ 11)
    have hr_GYd := hr.mono (by decide : 8 ≤ 11)
    have hr_GMi := hr.mono (by decide : 3 ≤ 11)
    have hr_QMr := hr
    refine ⟨_, PSs.nox (pss_cons (ps_set (i := 1) sc_right.nd rfl (Or.inr rfl) (pe_call GSd hr_GSd (by rfl) (T.gd "_law_sampled" (mem_at 58 rfl)) GSdF.kp GSdB .nil pass0 (pa_cons (pv 0) (pa_cons (pe_call GLi hr_GLi (by rfl) (T.gd "_law_light" (mem_at 59 rfl)) GLiF.kp GLiB .nil pass0 (pa_cons (pv 0) pa_nil)) (pa_cons pe_int (pa_cons pe_int pa_nil))))))
      (pss_cons (ps_set (i := 2) sc_right.nd rfl (Or.inr rfl) (pe_call GYd hr_GYd (by rfl) (T.gd "_law_yard" (mem_at 50 rfl)) GYdF.kp GYdB .nil pass0 (pa_cons (pv 1) pa_nil)))
      (pss_one (ps_ret (pe_callB (cr_all rfl) (by rfl) (T.fr "all" (mem_at 1 rfl)) (by decide +kernel) (pa_cons (pe_lc (own := [("lap", 3)]) (g := gName 3) (tt := tYes) rfl sc_right.nd (pi_range1 (by rfl) (T.fr "range" (mem_at 12 rfl)) (pa_cons pe_int pa_nil)) (blkOk_by (N := ["pot", "own", "mine", "lap"]) (sc := defScope s_right) (by decide +kernel)) (fun _ _ _ _ _ => pg_name (i := 3) sc_right.nd rfl (Or.inl rfl)) (fun _ _ _ _ _ => pts_nil) (fun _ _ _ _ _ => (pe_callG QMr hr_QMr hgd (by rfl) (T.gd "_law_is_mixed_right" (mem_at 60 rfl)) QMrF.kp QMrB .nil pass0 (pa_cons (pv 1) (pa_cons (pv 2) (pa_cons (pe_call GMi hr_GMi (by rfl) (T.gd "_law_mixed" (mem_at 57 rfl)) GMiF.kp GMiB .nil pass0 (pa_cons (pv 0) (pa_cons (pv 1) pa_nil))) pa_nil)))))) pa_nil)))))), ?_⟩
    refine i_set (i_call (i_cons (i_var rfl (i_cons (i_call (i_cons (i_var rfl (i_nil ⟨p, 0, rfl, hP, by decide, fun H1 po pn vn st b1 hP1 hO1 hV hG l14 => i_cons (i_c (i_cons (i_c (i_nil ⟨p, po, 4, 3, _, pn, vn, st, [], rfl, hO1, hV, hG, l14, by decide, by decide, by decide, by decide, hP1, by decide, fun H2 o sa b2 hP2 hO2 ok nd l6 => ?_⟩))))⟩))))))))
    have hd : Drawn vn st sa := ⟨hV, hG, l14, ok, nd, l6⟩
    refine i_set (i_call (i_cons (i_var rfl (i_nil ⟨o, pn, vn, st, sa, rfl, hO2.same but_same, hd, fun y H3 s3 hY => ?_⟩))))
    have hP3 := hP2.sameH s3
    have hO3 := hO2.same (same_but s3)
    have hY3 := hY.but hP3
    have b3 := (b1.trans b2).trans (same_but s3 (p := p))
    have hp3 := pot_some hP3
    refine i_ret (i_cb (i_cons (i_lc (i_cons (i_c (i_nil ⟨3, rfl, by decide, by decide, fun Dl nD => ?_⟩))))))
    have dl : Dl ≠ p := fun z => hp3 (z ▸ nD)
    refine lr_range (n := 3) (fun i H' => Same (But H3 p) (But H' p) ∧ Pot H' p (0 + 203 + 120 + 14 * (i : Int)) ∧ (But H' p) Dl = some (.lst (List.replicate i (.bl true)))) ?_ (fun i H' hi hI => ?_) (fun H' hI => ?_)
    · refine ⟨but_fresh nD hp3, ?_, (del_ne dl).trans upd_same⟩
      exact (hP3.new nD)
    · obtain ⟨bI, hPI, eI⟩ := hI
      have b6 : Same (But H3 p) (But H' p) := bI
      refine ⟨rfl, i_yes (iteT (i_call (i_cons (i_var rfl (i_cons (i_var rfl (i_cons (i_call (i_cons (i_var rfl (i_cons (i_var rfl (i_nil ⟨p, o, _, vn, st, sa, rfl, (hO3.same bI).own, hV, hG, l14, hPI, by omega, fun H5 T its b5 hP5 hT lT hR => i_nil ⟨o, y, T, vn, st, sa, its, rfl, OwnAt.same (b5.trans but_same) (hO3.same bI).own, (hY3.same bI).same (b5.trans but_same), hd, sameT but_same hT, lT, hR, fun H6 s6 => ?_⟩⟩)))))))))))))⟩
      have e6 : H6 Dl = some (.lst (List.replicate i (.bl true))) := s6 _ _ (but_same _ _ (b5 _ _ eI))
      refine ⟨_, e6, by rw [List.length_replicate]; exact small1000 (by omega), but_mut nD hp3 ((bI.trans b5).trans (same_but s6)), ?_, ?_⟩
      · have z := (hP5.sameH s6).off (o := .lst (List.replicate i (.bl true) ++ [.bl true])) dl
        rw [show (0 + 203 + 120 + 14 * ((i + 1 : Nat) : Int) : Int) = 0 + 203 + 120 + 14 * (i : Int) + 14 by omega]
        exact z
      · exact (del_ne dl).trans (by rw [upd_same, List.replicate_succ'])
    · obtain ⟨bI, hPI, eI⟩ := hI
      refine i_nil ⟨Dl, List.replicate 3 true, rfl, SqL.of (by rw [but_same _ _ eI, List.map_replicate]), ?_⟩
      exact q _ (b3.trans bI)
theorem sc_law : FnScope ["script", "place"] ["script"] (defScope s_law) := ⟨rfl, rfl, rfl, by decide +kernel, rfl, by decide +kernel, by decide +kernel⟩
theorem ok_law (T : Tx K mg) (F : FunD K "law" "law" (defArgs s_law) (defBody s_law) (defScope s_law) [] [] f fd) {fdGPo : FuncData} (GPo : FnOk P w K mg base CX0 1 (He.ga K "_law_pot") fdGPo ["script", "place"] (spPot K)) (GPoF : FnT K "_law_pot" s_pot fdGPo) (GPoB : Binds K fdGPo ["script", "place"] [])
    {fdGCe : FuncData} (GCe : FnOk P w K mg base CX0 1 (He.ga K "_law_cells") fdGCe ["script", "limit"] (spCells K)) (GCeF : FnT K "_law_cells" s_cells fdGCe) (GCeB : Binds K fdGCe ["script", "limit"] [])
    {fdQRi : FuncData} (QRi : FnG P w K mg base CX0 12 (He.ga K "_law_right") fdQRi ["pot"] (spRightG)) (QRiF : FnT K "_law_right" s_right fdQRi) (QRiB : Binds K fdQRi ["pot"] []) : FnG P w K mg base CX0 13 f fd ["script"] (spLawG K) := by
  refine okG F sc_law (fun vs H Q E h => ?_) (fun cdv A outer s H vs Q E hr hgd h => ?_)
  · obtain ⟨a, ns, rfl, hS, hl, k⟩ := h
    rfl
  · obtain ⟨a, ns, rfl, hS, hl, k⟩ := h
    have hr_GPo := hr.mono (by decide : 1 ≤ 12)
    have hr_GCe := hr.mono (by decide : 1 ≤ 12)
    have hr_QRi := hr
    refine ⟨_, PSs.nox (pss_one (ps_ret (pe_callB (cr_all rfl) (by rfl) (T.fr "all" (mem_at 1 rfl)) (by decide +kernel) (pa_cons (pe_lc (own := [("place", 1)]) (g := gName 1) (tt := tYes) rfl sc_law.nd (pi_list (pe_call GCe hr_GCe (by rfl) (T.gd "_law_cells" (mem_at 44 rfl)) GCeF.kp GCeB .nil pass0 (pa_cons (pv 0) (pa_cons pe_int pa_nil)))) (blkOk_by (N := ["script", "place"]) (sc := defScope s_law) (by decide +kernel)) (fun _ _ _ _ _ => pg_name (i := 1) sc_law.nd rfl (Or.inl rfl)) (fun _ _ _ _ _ => pts_nil) (fun _ _ _ _ _ => (pe_callG QRi hr_QRi hgd (by rfl) (T.gd "_law_right" (mem_at 61 rfl)) QRiF.kp QRiB .nil pass0 (pa_cons (pe_call GPo hr_GPo (by rfl) (T.gd "_law_pot" (mem_at 40 rfl)) GPoF.kp GPoB .nil pass0 (pa_cons (pv 0) (pa_cons (pv 1) pa_nil))) pa_nil)))) pa_nil)))), ?_⟩
    refine i_ret (i_cb (i_cons (i_lc ?_)))
    refine ⟨.ref a, rfl, a, ns, 2, rfl, hS, hl, by decide, by decide, fun H1 pc m s1 n1 hm hpc => ⟨pc, rfl, ⟨_, SqL.of hpc⟩, fun Dl nD => ?_⟩⟩
    refine lr_list (xs := (List.range m).map fun j => V.int (j : Nat)) (fun i H2 => H2 Dl = some (.lst (List.replicate i (V.bl true))) ∧ Same H1 H2) ⟨upd_same, same_new nD⟩ (fun i H2 _ h => h.2.seq (SqL.of hpc)) (fun i x H2 hx h2 => ?_) (fun H2 h2 => ?_)
    · obtain ⟨e2, s2⟩ := h2
      obtain ⟨j, hj, rfl⟩ : ∃ j : Nat, j < m ∧ x = V.int (j : Nat) := by
        rw [List.getElem?_map] at hx
        cases q : (List.range m)[i]? with
        | none => rw [q] at hx; cases hx
        | some j =>
          rw [q] at hx
          exact ⟨j, List.mem_range.mp (List.mem_of_getElem? q), (Option.some.inj hx).symm⟩
      refine ⟨rfl, .ref a, rfl, .int (j : Nat), rfl, a, ns, (j : Nat), rfl, (s1.trans s2).seq hS, hl, by omega, by omega, fun H3 p s3 n3 hp => ⟨p, rfl, hp, fun H4 s4 => ?_⟩⟩
      have np : ∀ {b : Addr} {o : HO}, H2 b = some o → b ≠ p := fun {b o} e => ne_of_none e n3
      have s5 : Same H2 H4 := fun b o e => by
        have ne := np e
        exact (del_ne ne).symm.trans (s4 b o ((del_ne ne).trans (s3 b o e)))
      refine ⟨_, s5 _ _ e2, ?_, ?_, same_mut (s2.trans s5) nD⟩
      · rw [List.length_replicate]
        have hi : i < m := by
          have z := (List.getElem?_eq_some_iff.mp hx).1
          rw [List.length_map, List.length_range] at z
          exact z
        exact small1000 (by omega)
      · rw [upd_same, List.replicate_succ']
    · obtain ⟨e2, s2⟩ := h2
      rw [List.length_map, List.length_range] at e2
      refine i_nil ⟨Dl, List.replicate m true, rfl, SqL.of (by rw [e2, List.map_replicate]), ?_⟩
      rw [show (List.replicate m true).all id = true from List.all_eq_true.mpr fun b hb => (List.eq_of_mem_replicate hb)]
      exact k _
end
end K10
set_option Elab.async false
set_option linter.all false
set_option maxRecDepth 100000
set_option maxHeartbeats 4000000
namespace K10
open PySem PySem.Spec PyProof.Rows L2 Er
section
variable {P : Program} {w : World} {K : PySem.W.Frag} {mg : Str → Option Value} {base : Heap} {f : Addr} {fd : FuncData}
theorem sc_init : FnScope ["self", "value"] ["self", "value"] (defScope sInit) := ⟨rfl, rfl, rfl, by decide +kernel, rfl, by decide +kernel, by decide +kernel⟩
theorem facts {P : Program} {w : World} {K : PySem.W.Frag} {h : Heap} {mg : Str → Option Value} {f : Addr} (X : K.In h) (G : h.Ns mainGlobals mg) (hfa : mg ("law" : Str) = some (.ref f)) (c : SaysX xb fa fn K) :
    ∃ fd : FuncData, (∀ (s : Shared) (v : Value), BindsTo s fd ⟨[v], []⟩ [("script", v)]) ∧ ∀ base : Heap, K.In base → base.Ns mainGlobals mg → FnG P w K mg base CX0 13 f fd ["script"] (spLawG K) := by
  have T := tx_of X G c
  have c1 := c.two.1
  obtain ⟨fdI, FI⟩ := c1.def_ 0 (d := d_init) rfl
  obtain ⟨fd_is_integer, F_is_integer⟩ := c1.def_ 2 (d := d_is_integer) rfl
  obtain ⟨fd_is_within, F_is_within⟩ := c1.def_ 3 (d := d_is_within) rfl
  obtain ⟨fd_is_name, F_is_name⟩ := c1.def_ 4 (d := d_is_name) rfl
  obtain ⟨fd_integer_of, F_integer_of⟩ := c1.def_ 6 (d := d_integer_of) rfl
  obtain ⟨fd_is_step, F_is_step⟩ := c1.def_ 7 (d := d_is_step) rfl
  obtain ⟨fd_vessel_taken, F_vessel_taken⟩ := c1.def_ 8 (d := d_vessel_taken) rfl
  obtain ⟨fd_vessel_brought, F_vessel_brought⟩ := c1.def_ 9 (d := d_vessel_brought) rfl
  obtain ⟨fd_moved_on, F_moved_on⟩ := c1.def_ 10 (d := d_moved_on) rfl
  obtain ⟨fd_is_spot, F_is_spot⟩ := c1.def_ 11 (d := d_is_spot) rfl
  obtain ⟨fd_is_sample, F_is_sample⟩ := c1.def_ 12 (d := d_is_sample) rfl
  obtain ⟨fd_step_in, F_step_in⟩ := c1.def_ 13 (d := d_step_in) rfl
  obtain ⟨fd_sample_in, F_sample_in⟩ := c1.def_ 14 (d := d_sample_in) rfl
  obtain ⟨fd_drawn, F_drawn⟩ := c1.def_ 36 (d := d_drawn) rfl
  obtain ⟨fd_next_level, F_next_level⟩ := c1.def_ 37 (d := d_next_level) rfl
  obtain ⟨fd_are_vessels, F_are_vessels⟩ := c1.def_ 34 (d := d_are_vessels) rfl
  obtain ⟨fd_vessels_in, F_vessels_in⟩ := c1.def_ 35 (d := d_vessels_in) rfl
  obtain ⟨fd_read_yard, F_read_yard⟩ := c1.def_ 38 (d := d_read_yard) rfl
  obtain ⟨fd_Yard___init__, F_Yard___init__⟩ := c1.def_ 64 (d := d_Yard___init__) rfl
  obtain ⟨fd_take, F_take⟩ := c1.def_ 42 (d := d_take) rfl
  obtain ⟨fd_pot, F_pot⟩ := c1.def_ 41 (d := d_pot) rfl
  obtain ⟨fd_cells, F_cells⟩ := c1.def_ 45 (d := d_cells) rfl
  obtain ⟨fd_Yard___len__, F_Yard___len__⟩ := c1.def_ 66 (d := d_Yard___len__) rfl
  obtain ⟨fd_Yard___contains__, F_Yard___contains__⟩ := c1.def_ 67 (d := d_Yard___contains__) rfl
  obtain ⟨fd_are_integers, F_are_integers⟩ := c1.def_ 5 (d := d_are_integers) rfl
  obtain ⟨fd_check_spot, F_check_spot⟩ := c1.def_ 17 (d := d_check_spot) rfl
  obtain ⟨fd_check_moment, F_check_moment⟩ := c1.def_ 18 (d := d_check_moment) rfl
  obtain ⟨fd_is_row, F_is_row⟩ := c1.def_ 25 (d := d_is_row) rfl
  obtain ⟨fd_room_of, F_room_of⟩ := c1.def_ 21 (d := d_room_of) rfl
  obtain ⟨fd_stand_behind, F_stand_behind⟩ := c1.def_ 22 (d := d_stand_behind) rfl
  obtain ⟨fd_all_stands, F_all_stands⟩ := c1.def_ 23 (d := d_all_stands) rfl
  obtain ⟨fd_fault_of, F_fault_of⟩ := c1.def_ 24 (d := d_fault_of) rfl
  obtain ⟨fd_judged, F_judged⟩ := c1.def_ 26 (d := d_judged) rfl
  obtain ⟨fd_is_mixing, F_is_mixing⟩ := c1.def_ 27 (d := d_is_mixing) rfl
  obtain ⟨fd_check_mixing, F_check_mixing⟩ := c1.def_ 28 (d := d_check_mixing) rfl
  obtain ⟨fd_dye_of, F_dye_of⟩ := c1.def_ 29 (d := d_dye_of) rfl
  obtain ⟨fd_dye, F_dye⟩ := c1.def_ 30 (d := d_dye) rfl
  obtain ⟨fd_stands, F_stands⟩ := c1.def_ 31 (d := d_stands) rfl
  obtain ⟨fd_keeps, F_keeps⟩ := c1.def_ 32 (d := d_keeps) rfl
  obtain ⟨fd_broken, F_broken⟩ := c1.def_ 33 (d := d_broken) rfl
  obtain ⟨fd_meets, F_meets⟩ := c1.def_ 19 (d := d_meets) rfl
  obtain ⟨fd_still, F_still⟩ := c1.def_ 20 (d := d_still) rfl
  obtain ⟨fd_step_line, F_step_line⟩ := c1.def_ 15 (d := d_step_line) rfl
  obtain ⟨fd_sample_line, F_sample_line⟩ := c1.def_ 16 (d := d_sample_line) rfl
  obtain ⟨fd_vessels_line, F_vessels_line⟩ := c1.def_ 39 (d := d_vessels_line) rfl
  obtain ⟨fd_yard_of, F_yard_of⟩ := c1.def_ 40 (d := d_yard_of) rfl
  obtain ⟨fd_Yard_bare, F_Yard_bare⟩ := c1.def_ 73 (d := d_Yard_bare) rfl
  obtain ⟨fd_levels, F_levels⟩ := c1.def_ 46 (d := d_levels) rfl
  obtain ⟨fd_of, F_of⟩ := c1.def_ 43 (d := d_of) rfl
  obtain ⟨fd_some, F_some⟩ := c1.def_ 44 (d := d_some) rfl
  obtain ⟨fd_deed, F_deed⟩ := c1.def_ 47 (d := d_deed) rfl
  obtain ⟨fd_own, F_own⟩ := c1.def_ 48 (d := d_own) rfl
  obtain ⟨fd_spot_text, F_spot_text⟩ := c1.def_ 49 (d := d_spot_text) rfl
  obtain ⟨fd_text, F_text⟩ := c1.def_ 50 (d := d_text) rfl
  obtain ⟨fd_dyes, F_dyes⟩ := c1.def_ 54 (d := d_dyes) rfl
  obtain ⟨fd_spots, F_spots⟩ := c1.def_ 52 (d := d_spots) rfl
  obtain ⟨fd_size, F_size⟩ := c1.def_ 53 (d := d_size) rfl
  obtain ⟨fd_law_dye, F_law_dye⟩ := c1.def_ 55 (d := d_law_dye) rfl
  obtain ⟨fd_choices, F_choices⟩ := c1.def_ 56 (d := d_choices) rfl
  obtain ⟨fd_mixed, F_mixed⟩ := c1.def_ 58 (d := d_mixed) rfl
  obtain ⟨fd_sampled, F_sampled⟩ := c1.def_ 59 (d := d_sampled) rfl
  obtain ⟨fd_yard, F_yard⟩ := c1.def_ 51 (d := d_yard) rfl
  obtain ⟨fd_does_keep, F_does_keep⟩ := c1.def_ 57 (d := d_does_keep) rfl
  obtain ⟨fd_is_mixed_right, F_is_mixed_right⟩ := c1.def_ 61 (d := d_is_mixed_right) rfl
  obtain ⟨fd_light, F_light⟩ := c1.def_ 60 (d := d_light) rfl
  obtain ⟨fd_right, F_right⟩ := c1.def_ 62 (d := d_right) rfl
  obtain ⟨fd_law, F_law⟩ := c1.def_ 63 (d := d_law) rfl
  have e := hfa.symm.trans (T.gd "law" (mem_at 62 rfl))
  cases e
  have bI : Binds K fdI ["self", "value"] [] := FunD.bindsN FI fun _ _ _ _ _ _ us hl => match us, hl with | [_, _], _ => rfl
  have b_is_integer : Binds K fd_is_integer ["value"] [] := FunD.bindsN F_is_integer fun _ _ _ _ _ _ us hl => match us, hl with | [_], _ => rfl
  have b_is_within : Binds K fd_is_within ["value", "low", "high"] [] := FunD.bindsN F_is_within fun _ _ _ _ _ _ us hl => match us, hl with | [_, _, _], _ => rfl
  have b_is_name : Binds K fd_is_name ["value"] [] := FunD.bindsN F_is_name fun _ _ _ _ _ _ us hl => match us, hl with | [_], _ => rfl
  have b_integer_of : Binds K fd_integer_of ["word"] [] := FunD.bindsN F_integer_of fun _ _ _ _ _ _ us hl => match us, hl with | [_], _ => rfl
  have b_is_step : Binds K fd_is_step ["value", "vessels"] [] := FunD.bindsN F_is_step fun _ _ _ _ _ _ us hl => match us, hl with | [_, _], _ => rfl
  have b_vessel_taken : Binds K fd_vessel_taken ["step"] [] := FunD.bindsN F_vessel_taken fun _ _ _ _ _ _ us hl => match us, hl with | [_], _ => rfl
  have b_vessel_brought : Binds K fd_vessel_brought ["step"] [] := FunD.bindsN F_vessel_brought fun _ _ _ _ _ _ us hl => match us, hl with | [_], _ => rfl
  have b_moved_on : Binds K fd_moved_on ["vessels", "stand", "step", "much"] [] := FunD.bindsN F_moved_on fun _ _ _ _ _ _ us hl => match us, hl with | [_, _, _, _], _ => rfl
  have b_is_spot : Binds K fd_is_spot ["value", "vessels", "many"] [] := FunD.bindsN F_is_spot fun _ _ _ _ _ _ us hl => match us, hl with | [_, _, _], _ => rfl
  have b_is_sample : Binds K fd_is_sample ["value", "vessels", "many"] [] := FunD.bindsN F_is_sample fun _ _ _ _ _ _ us hl => match us, hl with | [_, _, _], _ => rfl
  have b_step_in : Binds K fd_step_in ["line"] [] := FunD.bindsN F_step_in fun _ _ _ _ _ _ us hl => match us, hl with | [_], _ => rfl
  have b_sample_in : Binds K fd_sample_in ["line"] [] := FunD.bindsN F_sample_in fun _ _ _ _ _ _ us hl => match us, hl with | [_], _ => rfl
  have b_drawn : Binds K fd_drawn ["steps"] [] := FunD.bindsN F_drawn fun _ _ _ _ _ _ us hl => match us, hl with | [_], _ => rfl
  have b_next_level : Binds K fd_next_level ["vessels", "steps", "level", "step"] [] := FunD.bindsN F_next_level fun _ _ _ _ _ _ us hl => match us, hl with | [_, _, _, _], _ => rfl
  have b_are_vessels : Binds K fd_are_vessels ["value"] [] := FunD.bindsN F_are_vessels fun _ _ _ _ _ _ us hl => match us, hl with | [_], _ => rfl
  have b_vessels_in : Binds K fd_vessels_in ["line"] [] := FunD.bindsN F_vessels_in fun _ _ _ _ _ _ us hl => match us, hl with | [_], _ => rfl
  have b_read_yard : Binds K fd_read_yard ["text"] [] := FunD.bindsN F_read_yard fun _ _ _ _ _ _ us hl => match us, hl with | [_], _ => rfl
  have b_Yard___init__ : Binds K fd_Yard___init__ ["self", "text"] [] := FunD.bindsN F_Yard___init__ fun _ _ _ _ _ _ us hl => match us, hl with | [_, _], _ => rfl
  have b_take : Binds K fd_take ["pot", "upto"] [] := FunD.bindsN F_take fun _ _ _ _ _ _ us hl => match us, hl with | [_, _], _ => rfl
  have b_pot : Binds K fd_pot ["script", "place"] [] := FunD.bindsN F_pot fun _ _ _ _ _ _ us hl => match us, hl with | [_, _], _ => rfl
  have b_cells : Binds K fd_cells ["script", "limit"] [] := FunD.bindsN F_cells fun _ _ _ _ _ _ us hl => match us, hl with | [_, _], _ => rfl
  have b_Yard___len__ : Binds K fd_Yard___len__ ["self"] [] := FunD.bindsN F_Yard___len__ fun _ _ _ _ _ _ us hl => match us, hl with | [_], _ => rfl
  have b_Yard___contains__ : Binds K fd_Yard___contains__ ["self", "x"] [] := FunD.bindsN F_Yard___contains__ fun _ _ _ _ _ _ us hl => match us, hl with | [_, _], _ => rfl
  have b_are_integers : Binds K fd_are_integers ["value", "many"] [] := FunD.bindsN F_are_integers fun _ _ _ _ _ _ us hl => match us, hl with | [_, _], _ => rfl
  have b_check_spot : Binds K fd_check_spot ["yard", "spot"] [] := FunD.bindsN F_check_spot fun _ _ _ _ _ _ us hl => match us, hl with | [_, _], _ => rfl
  have b_check_moment : Binds K fd_check_moment ["yard", "moment"] [] := FunD.bindsN F_check_moment fun _ _ _ _ _ _ us hl => match us, hl with | [_, _], _ => rfl
  have b_is_row : Binds K fd_is_row ["yard", "value"] [] := FunD.bindsN F_is_row fun _ _ _ _ _ _ us hl => match us, hl with | [_, _], _ => rfl
  have b_room_of : Binds K fd_room_of ["yard", "number", "stand"] [] := FunD.bindsN F_room_of fun _ _ _ _ _ _ us hl => match us, hl with | [_, _, _], _ => rfl
  have b_stand_behind : Binds K fd_stand_behind ["yard", "number", "stand", "moved"] [] := FunD.bindsN F_stand_behind fun _ _ _ _ _ _ us hl => match us, hl with | [_, _, _, _], _ => rfl
  have b_all_stands : Binds K fd_all_stands ["yard", "row"] [] := FunD.bindsN F_all_stands fun _ _ _ _ _ _ us hl => match us, hl with | [_, _], _ => rfl
  have b_fault_of : Binds K fd_fault_of ["yard", "number", "stand", "moved"] [] := FunD.bindsN F_fault_of fun _ _ _ _ _ _ us hl => match us, hl with | [_, _, _, _], _ => rfl
  have b_judged : Binds K fd_judged ["yard", "row"] [] := FunD.bindsN F_judged fun _ _ _ _ _ _ us hl => match us, hl with | [_, _], _ => rfl
  have b_is_mixing : Binds K fd_is_mixing ["yard", "value"] [] := FunD.bindsN F_is_mixing fun _ _ _ _ _ _ us hl => match us, hl with | [_, _], _ => rfl
  have b_check_mixing : Binds K fd_check_mixing ["yard", "row"] [] := FunD.bindsN F_check_mixing fun _ _ _ _ _ _ us hl => match us, hl with | [_, _], _ => rfl
  have b_dye_of : Binds K fd_dye_of ["yard", "row", "spot"] [] := FunD.bindsN F_dye_of fun _ _ _ _ _ _ us hl => match us, hl with | [_, _, _], _ => rfl
  have b_dye : Binds K fd_dye ["yard", "row", "spot"] [] := FunD.bindsN F_dye fun _ _ _ _ _ _ us hl => match us, hl with | [_, _, _], _ => rfl
  have b_stands : Binds K fd_stands ["yard", "row", "moment"] [] := FunD.bindsN F_stands fun _ _ _ _ _ _ us hl => match us, hl with | [_, _, _], _ => rfl
  have b_keeps : Binds K fd_keeps ["yard", "row", "sample"] [] := FunD.bindsN F_keeps fun _ _ _ _ _ _ us hl => match us, hl with | [_, _, _], _ => rfl
  have b_broken : Binds K fd_broken ["yard", "row"] [] := FunD.bindsN F_broken fun _ _ _ _ _ _ us hl => match us, hl with | [_, _], _ => rfl
  have b_meets : Binds K fd_meets ["yard", "vessel"] [] := FunD.bindsN F_meets fun _ _ _ _ _ _ us hl => match us, hl with | [_, _], _ => rfl
  have b_still : Binds K fd_still ["yard", "spot"] [] := FunD.bindsN F_still fun _ _ _ _ _ _ us hl => match us, hl with | [_, _], _ => rfl
  have b_step_line : Binds K fd_step_line ["step"] [] := FunD.bindsN F_step_line fun _ _ _ _ _ _ us hl => match us, hl with | [_], _ => rfl
  have b_sample_line : Binds K fd_sample_line ["sample"] [] := FunD.bindsN F_sample_line fun _ _ _ _ _ _ us hl => match us, hl with | [_], _ => rfl
  have b_vessels_line : Binds K fd_vessels_line ["vessels"] [] := FunD.bindsN F_vessels_line fun _ _ _ _ _ _ us hl => match us, hl with | [_], _ => rfl
  have b_yard_of : Binds K fd_yard_of ["vessels", "steps", "samples"] [] := FunD.bindsN F_yard_of fun _ _ _ _ _ _ us hl => match us, hl with | [_, _, _], _ => rfl
  have b_Yard_bare : Binds K fd_Yard_bare ["self"] [] := FunD.bindsN F_Yard_bare fun _ _ _ _ _ _ us hl => match us, hl with | [_], _ => rfl
  have b_levels : Binds K fd_levels ["own"] [] := FunD.bindsN F_levels fun _ _ _ _ _ _ us hl => match us, hl with | [_], _ => rfl
  have b_of : Binds K fd_of ["pot", "some"] [] := FunD.bindsN F_of fun _ _ _ _ _ _ us hl => match us, hl with | [_, _], _ => rfl
  have b_some : Binds K fd_some ["pot", "pool", "width"] [] := FunD.bindsN F_some fun _ _ _ _ _ _ us hl => match us, hl with | [_, _, _], _ => rfl
  have b_deed : Binds K fd_deed ["pot", "own", "level", "great"] [] := FunD.bindsN F_deed fun _ _ _ _ _ _ us hl => match us, hl with | [_, _, _, _], _ => rfl
  have b_own : Binds K fd_own ["pot", "tops", "few", "upper", "great"] [] := FunD.bindsN F_own fun _ _ _ _ _ _ us hl => match us, hl with | [_, _, _, _, _], _ => rfl
  have b_spot_text : Binds K fd_spot_text ["place"] [] := FunD.bindsN F_spot_text fun _ _ _ _ _ _ us hl => match us, hl with | [_], _ => rfl
  have b_text : Binds K fd_text ["own"] [] := FunD.bindsN F_text fun _ _ _ _ _ _ us hl => match us, hl with | [_], _ => rfl
  have b_dyes : Binds K fd_dyes ["own", "its"] [] := FunD.bindsN F_dyes fun _ _ _ _ _ _ us hl => match us, hl with | [_, _], _ => rfl
  have b_spots : Binds K fd_spots ["own"] [] := FunD.bindsN F_spots fun _ _ _ _ _ _ us hl => match us, hl with | [_], _ => rfl
  have b_size : Binds K fd_size ["own", "place"] [] := FunD.bindsN F_size fun _ _ _ _ _ _ us hl => match us, hl with | [_, _], _ => rfl
  have b_law_dye : Binds K fd_law_dye ["own", "its", "place"] [] := FunD.bindsN F_law_dye fun _ _ _ _ _ _ us hl => match us, hl with | [_, _, _], _ => rfl
  have b_choices : Binds K fd_choices ["deed", "dyed", "level"] [] := FunD.bindsN F_choices fun _ _ _ _ _ _ us hl => match us, hl with | [_, _, _], _ => rfl
  have b_mixed : Binds K fd_mixed ["pot", "own"] [] := FunD.bindsN F_mixed fun _ _ _ _ _ _ us hl => match us, hl with | [_, _], _ => rfl
  have b_sampled : Binds K fd_sampled ["pot", "own", "top", "far"] [] := FunD.bindsN F_sampled fun _ _ _ _ _ _ us hl => match us, hl with | [_, _, _, _], _ => rfl
  have b_yard : Binds K fd_yard ["own"] [] := FunD.bindsN F_yard fun _ _ _ _ _ _ us hl => match us, hl with | [_], _ => rfl
  have b_does_keep : Binds K fd_does_keep ["own", "its", "claim_here"] [] := FunD.bindsN F_does_keep fun _ _ _ _ _ _ us hl => match us, hl with | [_, _, _], _ => rfl
  have b_is_mixed_right : Binds K fd_is_mixed_right ["own", "mine", "its"] [] := FunD.bindsN F_is_mixed_right fun _ _ _ _ _ _ us hl => match us, hl with | [_, _, _], _ => rfl
  have b_light : Binds K fd_light ["pot"] [] := FunD.bindsN F_light fun _ _ _ _ _ _ us hl => match us, hl with | [_], _ => rfl
  have b_right : Binds K fd_right ["pot"] [] := FunD.bindsN F_right fun _ _ _ _ _ _ us hl => match us, hl with | [_], _ => rfl
  have bL := FunD.bindsA (ps := ["script"]) F_law fun _ _ _ _ _ _ us hl => match us, hl with | [_], _ => rfl
  refine ⟨fd_law, fun s v => bL s [v] rfl, fun base _ _ => ?_⟩
  have GI : FnOk P w K mg base CX0 1 (fI K) fdI ["self", "value"] (spInit K) := ok_init (st := sInit) (q := "PourError.__init__") FI sc_init rfl (.inl rfl) (.inl rfl) fun _ _ => rfl
  have CL : Cls K (He.ga K "Yard") := He.cls_ok (T.more _ (List.mem_of_getElem? (i := 9) rfl))
  have NA : ∀ a ∈ (["text", "vessels", "steps", "samples", "levels", "ends"] : List Str), NoAttr K (He.ga K "Yard") a := fun a ha => by
    simp only [List.mem_cons, List.not_mem_nil, or_false] at ha
    rcases ha with rfl | rfl | rfl | rfl | rfl | rfl
    · exact He.noat_ok (T.more _ (List.mem_of_getElem? (i := 15) rfl))
    · exact He.noat_ok (T.more _ (List.mem_of_getElem? (i := 16) rfl))
    · exact He.noat_ok (T.more _ (List.mem_of_getElem? (i := 14) rfl))
    · exact He.noat_ok (T.more _ (List.mem_of_getElem? (i := 13) rfl))
    · exact He.noat_ok (T.more _ (List.mem_of_getElem? (i := 12) rfl))
    · exact He.noat_ok (T.more _ (List.mem_of_getElem? (i := 11) rfl))
  have NA4 : ∀ a ∈ (["vessels", "steps", "samples", "levels"] : List Str), NoAttr K (He.ga K "Yard") a := fun a ha => NA a (by
    simp only [List.mem_cons, List.not_mem_nil, or_false] at ha ⊢
    rcases ha with rfl | rfl | rfl | rfl <;> simp)
  have MK : Mk K (He.ga K "Yard") (He.ma K (He.ga K "Yard") "__init__") := He.mkr_ok (T.more _ (List.mem_of_getElem? (i := 10) rfl))
  have MB : Meth K (He.ga K "Yard") "bare" (He.ma K (He.ga K "Yard") "bare") := He.meth_ok (T.more _ (List.mem_of_getElem? (i := 26) rfl))
  have ML : Meth K (He.ga K "Yard") "__len__" (He.ma K (He.ga K "Yard") "__len__") := He.meth_ok (T.more _ (List.mem_of_getElem? (i := 19) rfl))
  have MC : Meth K (He.ga K "Yard") "__contains__" (He.ma K (He.ga K "Yard") "__contains__") := He.meth_ok (T.more _ (List.mem_of_getElem? (i := 20) rfl))
  have G_is_integer : FnOk P w K mg base CX0 1 (He.ga K "is_integer") fd_is_integer ["value"] (spIsInt K) := ok_is_integer T F_is_integer
  have G_is_within : FnOk P w K mg base CX0 2 (He.ga K "is_within") fd_is_within ["value", "low", "high"] (spWithin K) := ok_is_within T F_is_within G_is_integer F_is_integer b_is_integer
  have G_is_name : FnOk P w K mg base CX0 1 (He.ga K "is_name") fd_is_name ["value"] (spIsName K) := ok_is_name T F_is_name
  have G_integer_of : FnOk P w K mg base CX0 1 (He.ga K "integer_of") fd_integer_of ["word"] spIntOf := ok_integer_of T F_integer_of
  have G_is_step : FnOk P w K mg base CX0 3 (He.ga K "is_step") fd_is_step ["value", "vessels"] (spStep K) := ok_is_step T F_is_step G_is_within F_is_within b_is_within
  have G_vessel_taken : FnOk P w K mg base CX0 1 (He.ga K "vessel_taken") fd_vessel_taken ["step"] (spTaken K takenS) := ok_vessel_taken T F_vessel_taken
  have G_vessel_brought : FnOk P w K mg base CX0 1 (He.ga K "vessel_brought") fd_vessel_brought ["step"] (spTaken K broughtS) := ok_vessel_brought T F_vessel_brought
  have G_moved_on : FnOk P w K mg base CX0 2 (He.ga K "moved_on") fd_moved_on ["vessels", "stand", "step", "much"] (spMoved K) := ok_moved_on T F_moved_on G_vessel_taken F_vessel_taken b_vessel_taken G_vessel_brought F_vessel_brought b_vessel_brought
  have G_is_spot : FnOk P w K mg base CX0 3 (He.ga K "is_spot") fd_is_spot ["value", "vessels", "many"] (spSpot K) := ok_is_spot T F_is_spot G_is_within F_is_within b_is_within
  have G_is_sample : FnOk P w K mg base CX0 4 (He.ga K "is_sample") fd_is_sample ["value", "vessels", "many"] (spSamp K) := ok_is_sample T F_is_sample G_is_within F_is_within b_is_within G_is_spot F_is_spot b_is_spot
  have G_step_in : FnOk P w K mg base CX0 2 (He.ga K "step_in") fd_step_in ["line"] (spStepIn K) := ok_step_in T F_step_in G_integer_of F_integer_of b_integer_of
  have G_sample_in : FnOk P w K mg base CX0 2 (He.ga K "sample_in") fd_sample_in ["line"] (spSampIn K) := ok_sample_in T F_sample_in G_integer_of F_integer_of b_integer_of
  have G_drawn : FnOk P w K mg base CX0 1 (He.ga K "drawn") fd_drawn ["steps"] (spDrawn K) := ok_drawn T F_drawn
  have G_next_level : FnOk P w K mg base CX0 4 (He.ga K "next_level") fd_next_level ["vessels", "steps", "level", "step"] (spNext K) := ok_next_level T F_next_level G_is_step F_is_step b_is_step G_drawn F_drawn b_drawn G_moved_on F_moved_on b_moved_on
  have G_are_vessels : FnOk P w K mg base CX0 2 (He.ga K "are_vessels") fd_are_vessels ["value"] (spAreV K) := ok_are_vessels T F_are_vessels G_is_name F_is_name b_is_name
  have G_vessels_in : FnOk P w K mg base CX0 3 (He.ga K "vessels_in") fd_vessels_in ["line"] (spVessIn K) := ok_vessels_in T F_vessels_in G_are_vessels F_are_vessels b_are_vessels
  have G_drawnT : FnOk P w K mg base CX0 1 (He.ga K "drawn") fd_drawn ["steps"] (spDrawnT K) := ok_drawnT T F_drawn
  have G_read_yard : FnOk P w K mg base (L2.CX P w) 5 (He.ga K "read_yard") fd_read_yard ["text"] (spRead K) := ok_read_yard T F_read_yard GI bI G_vessels_in F_vessels_in b_vessels_in G_step_in F_step_in b_step_in G_sample_in F_sample_in b_sample_in G_next_level F_next_level b_next_level G_is_sample F_is_sample b_is_sample
  have G_Yard___init__ : FnOk P w K mg base (L2.CX P w) 6 (He.ma K (He.ga K "Yard") "__init__") fd_Yard___init__ ["self", "text"] (spYardI K) := ok_Yard_init T CL NA F_Yard___init__ G_read_yard F_read_yard b_read_yard G_drawnT F_drawn b_drawn
  have G_take : FnOk P w K mg base CX0 1 (He.ga K "_law_take") fd_take ["pot", "upto"] spTake := ok_take T F_take
  have G_pot : FnOk P w K mg base CX0 1 (He.ga K "_law_pot") fd_pot ["script", "place"] (spPot K) := ok_pot T F_pot
  have G_cells : FnOk P w K mg base CX0 1 (He.ga K "_law_cells") fd_cells ["script", "limit"] (spCells K) := ok_cells T F_cells
  have G_Yard___len__ : FnOk P w K mg base CX0 1 (He.ma K (He.ga K "Yard") "__len__") fd_Yard___len__ ["self"] (spLenY K) := ok_Yard___len__ T F_Yard___len__ CL NA4
  have G_Yard___contains__ : FnOk P w K mg base CX0 1 (He.ma K (He.ga K "Yard") "__contains__") fd_Yard___contains__ ["self", "x"] (spConY K) := ok_Yard___contains__ T F_Yard___contains__ CL NA4
  have G_are_integers : FnOk P w K mg base CX0 2 (He.ga K "are_integers") fd_are_integers ["value", "many"] (spAreI K) := ok_are_integers T F_are_integers G_is_integer F_is_integer b_is_integer
  have OY : OwnY P w K mg base := ⟨CL, NA4, ⟨_, G_Yard___len__, b_Yard___len__⟩, ML.at_, ML.fn, ⟨_, G_Yard___contains__, b_Yard___contains__⟩, MC.at_, MC.fn⟩
  have G_check_spot : FnOk P w K mg base CX0 4 (He.ga K "check_spot") fd_check_spot ["yard", "spot"] (spChkS K) := ok_check_spot T F_check_spot OY G_is_spot F_is_spot b_is_spot
  have G_check_moment : FnOk P w K mg base CX0 3 (He.ga K "check_moment") fd_check_moment ["yard", "moment"] (spChkM K) := ok_check_moment T F_check_moment OY G_is_within F_is_within b_is_within
  have G_is_row : FnOk P w K mg base CX0 3 (He.ga K "is_row") fd_is_row ["yard", "value"] (spIsRow K) := ok_is_row T F_is_row OY G_are_integers F_are_integers b_are_integers
  have G_room_of : FnOk P w K mg base CX0 2 (He.ga K "room_of") fd_room_of ["yard", "number", "stand"] (spRoom K) := ok_room_of T F_room_of OY G_vessel_taken F_vessel_taken b_vessel_taken
  have G_stand_behind : FnOk P w K mg base CX0 3 (He.ga K "stand_behind") fd_stand_behind ["yard", "number", "stand", "moved"] (spBehind K) := ok_stand_behind T F_stand_behind OY G_moved_on F_moved_on b_moved_on
  have G_all_stands : FnOk P w K mg base CX0 4 (He.ga K "all_stands") fd_all_stands ["yard", "row"] (spAllSt K) := ok_all_stands T F_all_stands OY G_stand_behind F_stand_behind b_stand_behind
  have G_fault_of : FnOk P w K mg base CX0 3 (He.ga K "fault_of") fd_fault_of ["yard", "number", "stand", "moved"] (spFault K) := ok_fault_of T F_fault_of OY G_room_of F_room_of b_room_of
  have G_judged : FnOk P w K mg base CX0 4 (He.ga K "judged") fd_judged ["yard", "row"] (spJudgeM K) := ok_judged T F_judged OY G_is_row F_is_row b_is_row G_fault_of F_fault_of b_fault_of G_stand_behind F_stand_behind b_stand_behind
  have G_is_mixing : FnOk P w K mg base CX0 5 (He.ga K "is_mixing") fd_is_mixing ["yard", "value"] (spIsMix K) := ok_is_mixing T F_is_mixing G_is_row F_is_row b_is_row G_judged F_judged b_judged
  have G_check_mixing : FnOk P w K mg base CX0 6 (He.ga K "check_mixing") fd_check_mixing ["yard", "row"] (spChkMix K) := ok_check_mixing T F_check_mixing G_is_mixing F_is_mixing b_is_mixing
  have G_dye_of : FnOk P w K mg base CX0 5 (He.ga K "dye_of") fd_dye_of ["yard", "row", "spot"] (spDyeOf K) := ok_dye_of T F_dye_of OY G_all_stands F_all_stands b_all_stands
  have G_dye : FnOk P w K mg base CX0 7 (He.ga K "dye") fd_dye ["yard", "row", "spot"] (spDyeP K) := ok_dye T F_dye G_check_mixing F_check_mixing b_check_mixing G_check_spot F_check_spot b_check_spot G_dye_of F_dye_of b_dye_of
  have G_stands : FnOk P w K mg base CX0 7 (He.ga K "stands") fd_stands ["yard", "row", "moment"] (spStands K) := ok_stands T F_stands G_check_mixing F_check_mixing b_check_mixing G_check_moment F_check_moment b_check_moment G_all_stands F_all_stands b_all_stands
  have G_keeps : FnOk P w K mg base CX0 6 (He.ga K "keeps") fd_keeps ["yard", "row", "sample"] (spKeeps K) := ok_keeps T F_keeps G_dye_of F_dye_of b_dye_of
  have G_broken : FnOk P w K mg base CX0 7 (He.ga K "broken") fd_broken ["yard", "row"] (spBroken K) := ok_broken T F_broken OY G_check_mixing F_check_mixing b_check_mixing G_keeps F_keeps b_keeps
  have G_meets : FnOk P w K mg base CX0 2 (He.ga K "meets") fd_meets ["yard", "vessel"] (spMeets K) := ok_meets T F_meets OY G_vessel_taken F_vessel_taken b_vessel_taken G_vessel_brought F_vessel_brought b_vessel_brought
  have G_still : FnOk P w K mg base CX0 5 (He.ga K "still") fd_still ["yard", "spot"] (spStill K) := ok_still T F_still OY G_check_spot F_check_spot b_check_spot G_meets F_meets b_meets
  have G_step_line : FnOk P w K mg base CX0 1 (He.ga K "step_line") fd_step_line ["step"] (spLineS K) := ok_step_line T F_step_line
  have G_sample_line : FnOk P w K mg base CX0 1 (He.ga K "sample_line") fd_sample_line ["sample"] (spLineZ K) := ok_sample_line T F_sample_line
  have G_vessels_line : FnOk P w K mg base CX0 1 (He.ga K "vessels_line") fd_vessels_line ["vessels"] (spLineV K) := ok_vessels_line T F_vessels_line
  have G_yard_of : FnOk P w K mg base CX0 8 (He.ga K "yard_of") fd_yard_of ["vessels", "steps", "samples"] (spYardOf K) := ok_yard_of T F_yard_of MK G_Yard___init__ b_Yard___init__ G_step_line F_step_line b_step_line G_sample_line F_sample_line b_sample_line G_vessels_line F_vessels_line b_vessels_line
  have G_Yard_bare : FnOk P w K mg base CX0 9 (He.ma K (He.ga K "Yard") "bare") fd_Yard_bare ["self"] (spBare K) := ok_Yard_bare T F_Yard_bare CL NA4 G_yard_of F_yard_of b_yard_of
  have G_levels : FnOk P w K mg base CX0 1 (He.ga K "_law_levels") fd_levels ["own"] (spLevels K) := ok_levels T F_levels
  have G_of : FnOk P w K mg base CX0 2 (He.ga K "_law_of") fd_of ["pot", "some"] (spOf K) := ok_of T F_of G_take F_take b_take
  have G_some : FnOk P w K mg base CX0 2 (He.ga K "_law_some") fd_some ["pot", "pool", "width"] (spSome K) := ok_some T F_some G_take F_take b_take
  have G_deed : FnOk P w K mg base CX0 3 (He.ga K "_law_deed") fd_deed ["pot", "own", "level", "great"] (spDeedG K) := ok_deed T F_deed G_take F_take b_take G_of F_of b_of
  have G_own : FnOk P w K mg base CX0 4 (He.ga K "_law_own") fd_own ["pot", "tops", "few", "upper", "great"] (spOwnG K) := ok_own T F_own G_take F_take b_take G_of F_of b_of G_some F_some b_some G_deed F_deed b_deed G_levels F_levels b_levels
  have G_spot_text : FnOk P w K mg base CX0 1 (He.ga K "_law_spot_text") fd_spot_text ["place"] (spSpotText K) := ok_spot_text T F_spot_text
  have G_text : FnOk P w K mg base CX0 2 (He.ga K "_law_text") fd_text ["own"] (spText K) := ok_text T F_text G_spot_text F_spot_text b_spot_text
  have G_dyes : FnOk P w K mg base CX0 1 (He.ga K "_law_dyes") fd_dyes ["own", "its"] (spDyes K) := ok_dyes T F_dyes
  have G_spots : FnOk P w K mg base CX0 1 (He.ga K "_law_spots") fd_spots ["own"] (spSpots K) := ok_spots T F_spots
  have G_size : FnOk P w K mg base CX0 2 (He.ga K "_law_size") fd_size ["own", "place"] (spSize K) := ok_size T F_size G_levels F_levels b_levels
  have G_law_dye : FnOk P w K mg base CX0 2 (He.ga K "_law_dye") fd_law_dye ["own", "its", "place"] (spDye K) := ok_law_dye T F_law_dye G_dyes F_dyes b_dyes
  have G_choices : FnOk P w K mg base CX0 1 (He.ga K "_law_choices") fd_choices ["deed", "dyed", "level"] (spChoices K) := ok_choices T F_choices
  have G_mixed : FnOk P w K mg base CX0 3 (He.ga K "_law_mixed") fd_mixed ["pot", "own"] (spMixed K) := ok_mixed T F_mixed G_of F_of b_of G_levels F_levels b_levels G_dyes F_dyes b_dyes G_choices F_choices b_choices
  have G_sampled : FnOk P w K mg base CX0 4 (He.ga K "_law_sampled") fd_sampled ["pot", "own", "top", "far"] (spSampled K) := ok_sampled T F_sampled G_take F_take b_take G_of F_of b_of G_mixed F_mixed b_mixed G_spots F_spots b_spots G_size F_size b_size G_law_dye F_law_dye b_law_dye
  have G_yard : FnOk P w K mg base CX0 8 (He.ga K "_law_yard") fd_yard ["own"] (spYardL K) := ok_yard T F_yard MK G_Yard___init__ b_Yard___init__ G_text F_text b_text
  have G_does_keep : FnOk P w K mg base CX0 3 (He.ga K "_law_does_keep") fd_does_keep ["own", "its", "claim_here"] (spDoesK K) := ok_does_keep T F_does_keep G_law_dye F_law_dye b_law_dye
  have G_is_mixed_right : FnG P w K mg base CX0 11 (He.ga K "_law_is_mixed_right") fd_is_mixed_right ["own", "mine", "its"] (spMixR K) := ok_is_mixed_right T F_is_mixed_right G_dyes F_dyes b_dyes G_spots F_spots b_spots G_law_dye F_law_dye b_law_dye G_does_keep F_does_keep b_does_keep G_dye F_dye b_dye G_still F_still b_still G_stands F_stands b_stands G_broken F_broken b_broken CL MB G_Yard_bare b_Yard_bare
  have G_light : FnOk P w K mg base CX0 5 (He.ga K "_law_light") fd_light ["pot"] (spLight K) := ok_light T F_light G_of F_of b_of G_own F_own b_own
  have G_right : FnG P w K mg base CX0 12 (He.ga K "_law_right") fd_right ["pot"] (spRightG) := ok_right T F_right G_sampled F_sampled b_sampled G_light F_light b_light G_yard F_yard b_yard G_mixed F_mixed b_mixed G_is_mixed_right F_is_mixed_right b_is_mixed_right
  exact ok_law T F_law G_pot F_pot b_pot G_cells F_cells b_cells G_right F_right b_right
end
end K10
set_option Elab.async false
set_option linter.all false
set_option maxRecDepth 100000
set_option maxHeartbeats 4000000
open PySem PySem.W PySem.Calls PyProof.Rows
set_option maxRecDepth 100000 in
set_option maxHeartbeats 0 in
theorem PySem.Challenge.cw_dyedpours_k10_whole_dye_of_spots_and_sam_holds : PySem.Challenge.rw_dyedpours_k10_whole_dye_of_spots_and_sam.Holds := by
  w_on; o_law
  refine HandSHeadRun.head_any (r := OpenLaw.row PySem.Challenge.rw_dyedpours_k10_whole_dye_of_spots_and_sam) (q := view (OpenLaw.row PySem.Challenge.rw_dyedpours_k10_whole_dye_of_spots_and_sam).prog [86]) (H := K10.hk) (ob := K10.ob) (M := 30000) (loose := K10.loose) (d := HandSHeadRun.topDef (OpenLaw.row PySem.Challenge.rw_dyedpours_k10_whole_dye_of_spots_and_sam).prog 86) (kwd := []) K10.ob_eq
    (by kernel_rfl) (fun s => by kernel_rfl) K10.run (by kernel_rfl) (by kernel_rfl) (by kernel_rfl) (by rfl) (by first | assumption | decide +kernel) (by decide +kernel) ⟨rfl, rfl, rfl, rfl, rfl, by decide +kernel⟩ ?hw ?hc
  case hw => w_witness2
  case hc =>
    refine Er.walk_ofG (l := PySem.Challenge.rw_dyedpours_k10_whole_dye_of_spots_and_sam) (n := 63) (k := 13) (x := "script") (CX := fun _ => L2.CX0) rfl (by decide) (by kernel_rfl) ⟨rfl, by decide, by decide⟩ ?F (fun _ _ _ _ _ z => z)
    intro w mg fa h Y G hmg0
    obtain ⟨K, KX, c⟩ := Y
    have hmg : mg ("law" : PySem.Str) = some (.ref fa) := by
      have e : (HandSHeadRun.topDef (OpenLaw.row PySem.Challenge.rw_dyedpours_k10_whole_dye_of_spots_and_sam).prog 86).name = ("law" : PySem.Str) := by kernel_rfl
      rw [← e]
      exact hmg0
    obtain ⟨fd, hb, hF⟩ := K10.facts (P := (PySem.Challenge.rw_dyedpours_k10_whole_dye_of_spots_and_sam).prog) (w := w) KX G hmg c
    exact ⟨K, fd, Er.spLawG K, KX, hb, fun H a ns hl _ hS => ⟨a, ns, rfl, hS, hl, fun _ => rfl⟩, hF⟩
