import PyProof.Rows.All
import Wide.All
import OpenK.AllK
import Wide.FinOn
import KE.KIsAll
import KE.KExcIs
import PyProof.ReprRoads
import HandS.ForMost
import HandS.ExcInit
import HandS.Wide
import HandS.Defaults
import HandS.Head0
import HandS.Head1
import HandS.Head2
import HandS.HeadEnd
import HandS.HeadHook1
import HandS.HeadHook2
import HandS.Dict
import HandS.Evl
import HandS.Conv
import PySem.Challenge.RW_dyedpours_k00_errors_keep_their_value
set_option Elab.async false
set_option linter.all false
set_option maxRecDepth 100000
set_option maxHeartbeats 4000000
namespace Er
open PySem PySem.Spec PyProof.Rows L2
/-! ### own error classes over ValueError, whose __init__ stores one field -/
/-- what the written part shows of such a class -/
def oexB (K : PySem.W.Frag) (C : Addr) : Bool := match K.lookup C with
  | some ⟨.type ty, _, .cls cd, sl⟩ => (match cd.mro, sl.toList with
    | .ref C' :: bm, [_, _, _, _, some (.builtin n), _] => decide (ty = "type") && (decide (C' = C) && (decide (n = "ValueError.__new__") && (!cd.hasDel && (cd.hasDict && PySem.HandSPX.refsVE bm))))
    | _, _ => false)
  | _ => false
theorem oexB_ok {K : PySem.W.Frag} {C : Addr} (h : oexB K C = true) : ∃ nm q N bs bm sn sub ab col dd k0 k1 k2 k3 k5, K.lookup C = some (excClassObj nm q C N bs bm true sn sub ab col dd k0 k1 k2 k3 k5 "ValueError.__new__") ∧ PySem.HandSPX.refsVE bm = true := by
  unfold oexB at h
  cases q : K.lookup C with
  | none => rw [q] at h; cases h
  | some o =>
    obtain ⟨oc, od, dt, sl⟩ := o
    rw [q] at h
    cases oc <;> try (simp at h; done)
    rename_i ty
    cases dt <;> try (simp at h; done)
    rename_i cd
    obtain ⟨nm, bs, mro, ns, qn, hd, sn, sb, ab, col, del⟩ := cd
    obtain ⟨l⟩ := sl
    cases mro with
    | nil => simp at h
    | cons m bm =>
      cases m <;> try (simp at h; done)
      rename_i C'
      match l, h with
      | [k0, k1, k2, k3, some (.builtin n), k5], h =>
        simp only [Bool.and_eq_true, decide_eq_true_eq, Bool.not_eq_true'] at h
        obtain ⟨h1, h2, h3, h4, h5, h6⟩ := h
        subst h1 h2 h3 h4 h5
        exact ⟨nm, qn, ns, bs, bm, sn, sb, ab, col, od, k0, k1, k2, k3, k5, rfl, h6⟩
/-- all facts of such a class at C, fI its __init__ -/
structure ErC (K : PySem.W.Frag) (C fI : Addr) : Prop where
  oex : OexC K C
  hga : PySem.W.findIn K (.ref C) "__getattribute__" = some (some (.builtin "BaseException.__getattribute__"))
  hgt : PySem.W.findIn K (.ref C) "__getattr__" = some none
  hcl : PySem.W.findIn K (.ref C) "__class__" = some (some (.builtin "object.__class__"))
  hm : PySem.W.mroIn K C (.type "object") = some true
  hd : PySem.W.hasDictIn K C = true
  nv : PySem.W.findIn K (.ref C) "value" = some none
  init : PySem.W.findIn K (.ref C) "__init__" = some (some (.ref fI))
  tI : PySem.W.typeIn K (.ref fI) = some (.type "function")
  gs : PySem.W.specialIn K (.builtin "object.__class__") "__get__" = some (some (.builtin "getset_descriptor.__get__"))
  tk : PySem.W.takesIn K (.builtin "object.__class__") = some true
def oo (a b : Option (Option Value)) : Bool := decide (a = b)
def erB (K : PySem.W.Frag) (C fI : Addr) : Bool :=
  oexB K C && (oo (PySem.W.findIn K (.ref C) "__setattr__") (some (some (.builtin "object.__setattr__"))) && (decide (PySem.W.subIn K (.ref C) (.type "BaseException") = some true) && (decide (PySem.W.typeIn K (.ref C) = some (.type "type")) && (PySem.W.keepIn K (.ref C) &&
  (oo (PySem.W.findIn K (.ref C) "__getattribute__") (some (some (.builtin "BaseException.__getattribute__"))) && (oo (PySem.W.findIn K (.ref C) "__getattr__") (some none) && (oo (PySem.W.findIn K (.ref C) "__class__") (some (some (.builtin "object.__class__"))) &&
  (decide (PySem.W.mroIn K C (.type "object") = some true) && (PySem.W.hasDictIn K C && (oo (PySem.W.findIn K (.ref C) "value") (some none) && (oo (PySem.W.findIn K (.ref C) "__init__") (some (some (.ref fI))) &&
  (decide (PySem.W.typeIn K (.ref fI) = some (.type "function")) && (oo (PySem.W.specialIn K (.builtin "object.__class__") "__get__") (some (some (.builtin "getset_descriptor.__get__"))) && decide (PySem.W.takesIn K (.builtin "object.__class__") = some true))))))))))))))
theorem erB_ok {K : PySem.W.Frag} {C fI : Addr} (h : erB K C fI = true) : ErC K C fI := by
  simp only [erB, oo, Bool.and_eq_true, decide_eq_true_eq] at h
  obtain ⟨h1, h2, h3, h4, h5, h6, h7, h8, h9, h10, h11, h12, h13, h14, h15⟩ := h
  exact ⟨⟨oexB_ok h1, h2, h3, h4, h5⟩, h6, h7, h8, h9, h10, h11, h12, h13, h14, h15⟩
/-- at e: an error of the class at C that holds v as its value, its dict at d -/
def ErrAt (H : Hp) (e C d : Addr) (v : V) : Prop := H e = some (exo e C (some d)) ∧ H d = some (exd d [("value", v)])
theorem ErrAt.same {H H' : Hp} {e C d : Addr} {v : V} (s : Same H H') (h : ErrAt H e C d v) : ErrAt H' e C d v := ⟨s _ _ h.1, s _ _ h.2⟩

section
variable {X : Cx} {pins : List (Addr × Obj)} {σ : L2.St} {H : Hp} {s : Shared}
theorem inst_err {e C d : Addr} {v : V} (I : Inv X pins σ H s) (h : ErrAt H e C d v) : ∃ ox od, PySem.W.InstAt s.heap e ox C (some od) ∧ ∃ u, RelV v u ∧ PySem.W.lookIn "value" od = some (some u) := by
  obtain ⟨t1, ho⟩ := exo_at I.hok h.1
  obtain ⟨mA, hns, rel⟩ := exd_at I.hok h.2
  obtain ⟨od, hod, hl⟩ := lookIn_ns hns
  have l : List.lookup ("value" : Str) [(("value" : Str), v)] = some v := by simp [List.lookup]
  obtain ⟨u, hu, ru⟩ := RelO.some_of (v := v) (o := mA "value") (by rw [← l]; exact rel "value")
  exact ⟨_, od, ⟨ho, rfl, rfl, hod⟩, u, ru, by rw [hl, hu]⟩
/-- isinstance(e, c), e such an error -/
def rIsEr (K : PySem.W.Frag) : List V → Hp → VK → Prop := fun xs H Q => ∃ (e C fI d : Addr) (v c : V) (u : Value) (b : Bool), xs = [.ref e, c] ∧ ErC K C fI ∧ ErrAt H e C d v ∧ (∀ w, RelV c w → w = u) ∧ PySem.W.kitOne K (.ref C) u = some b ∧ Q (.bl b) H
theorem call_isEr : CallR X (.builtin "isinstance") (rIsEr X.K) := by
  intro pins s σ H xs us Q I r h
  obtain ⟨e, C, fI, d, v, c, u, b, rfl, T, E, hc, kb, q⟩ := h
  obtain ⟨u1, u2, rfl, r1, r2⟩ := vals2 r
  obtain rfl : u1 = Value.ref e := r1
  obtain rfl := hc _ r2
  obtain ⟨ox, od, J, _⟩ := inst_err I E
  have hcl : (PySem.W.clsIn X.K C).isSome = true := by
    obtain ⟨cd, hc, _⟩ := PySem.W.any_some T.hd
    rw [hc]; rfl
  exact PySem.W.kia_one (PySem.W.kitx_exc (od := some od) (ox := ox) hcl T.hga T.hgt T.oex.exC T.hcl T.gs T.tk T.hm) I.kIn J kb (fun z => nomatch z) fun tk => ⟨.bl b, H, I.tok tk, rfl, q⟩
/-- e.value -/
def tVal (K : PySem.W.Frag) (te : TE) : TE := fun σ H Q => te σ H fun x H1 => ∃ (e C fI d : Addr) (v : V), x = .ref e ∧ ErC K C fI ∧ ErrAt H1 e C d v ∧ Q v H1
theorem pe_value {e : Expr} {te : TE} {pos : Pos} (he : PE X e te) (hb : attributeBase e "value" X.env (eval e X.env) = eval e X.env := by rfl) : PE X (.Attribute e "value" pos) (tVal X.K te) := by
  refine ⟨fun pins s σ H Q I h => ?_⟩
  refine attr_of hb (thn (he.run pins s σ H _ I h) fun u s1 hh => ?_)
  obtain ⟨x, H1, I1, rx, a, C, fI, d, v, ex, T, E, q⟩ := hh
  subst ex
  obtain rfl : u = Value.ref a := rx
  obtain ⟨ox, od, J, u, ru, hl⟩ := inst_err I1 E
  exact PySem.HandSPX.exc_get I1.kIn J T.hga T.hgt T.oex.exC (PySem.W.findObj_own T.hd T.nv rfl hl) (handed_of ru) ⟨v, H1, I1.tok _, ru, q⟩
end

/-! ### making one: C(e) as a value -/
section
variable {X : Cx} {e : Expr} {es : List Expr} {ta : TA} {p pos : Pos}
def tMkV (C : Addr) (sp : Sp) (dvs : List V) (ta : TA) : TE := fun σ H Q => ta σ H fun vs H1 => vs.length ≤ 1000 ∧ ∀ a, H1 a = none → sp (.ref a :: (vs ++ dvs)) (upd H1 a (exo a C none)) (fun v H2 => v = .non ∧ Q (.ref a) H2) (fun _ _ _ => False)
theorem pe_oexV {CX : CXT} {x : Str} {C fI : Addr} {k : Nat} {fd : FuncData} {ps : List Str} {sp : Sp} {ds : List Value} {dvs : List V} (T : OexC X.K C) (iC : PySem.W.findIn X.K (.ref C) "__init__" = some (some (.ref fI))) (tI : PySem.W.typeIn X.K (.ref fI) = some (.type "function"))
    (F1 : FnOk X.prog X.w X.K X.mg X.base CX k fI fd ps sp) (hr : Room (k + 1) X.A) (hb : Binds X.K fd ps ds) (hd : Vals dvs ds) (hx : Passes CX X (fun _ _ _ => False)) (hg : Gl X x) (hm : X.mg x = some (.ref C)) (ha : PA X (e :: es) ta)
    (hdb : (x == ("__debug__" : Str)) = false := by decide) (he : starEach (e :: es) X.env = (false, eval e X.env) :: starEach es X.env := by rfl) (hpl : (backTo pos (starEach es X.env)).any (·.1) = false := by rfl) :
    PE X (.Call (.Name x p) (e :: es) [] pos) (tMkV C sp dvs ta) := by
  refine ⟨fun pins s σ H Q I h => ?_⟩
  obtain ⟨nm, q, N, bs, bm, sn, sub, ab, col, dd, k0, k1, k2, k3, k5, hC, hbm⟩ := T.cls
  refine wpAny_Call_Name_kw (ld_glob I hg hm ?_ hdb)
  refine PySem.W.callWith_K (h₀ := X.base) I.ok.mod.kin T.kC (thn (ha.run pos pins s σ H _ I h) fun us s1 ⟨vs, H1, I1, r1, hz, q1⟩ => ⟨I1.kIn, ?_⟩) he hpl
  show wpAny _ _ (call (.ref C) us) _ _ _
  obtain ⟨hp, g, dr, tk, os⟩ := s1
  have hsz : hp.objs.size ≤ hp.objs.size + 1 := Nat.le_succ _
  have hn : H1 (hp.objs.size + 1) = none := I1.hok.fresh hsz
  have hq := q1 (hp.objs.size + 1) hn
  have kk : ∀ b o, hp.get? b = some o → ((hp.push (PySem.W.kdv_tup us)).push (PySem.HandSPX.excO C hp.objs.size)).get? b = some o := fun b o e => Heap.get?_push_of_some _ (Heap.get?_push_of_some _ e)
  have hget : ((hp.push (PySem.W.kdv_tup us)).push (PySem.HandSPX.excO C hp.objs.size)).get? (hp.objs.size + 1) = some (PySem.HandSPX.excO C hp.objs.size) := by heap_get
  have I2 : Inv X pins σ (upd H1 (hp.objs.size + 1) (exo (hp.objs.size + 1) C none)) ⟨(hp.push (PySem.W.kdv_tup us)).push (PySem.HandSPX.excO C hp.objs.size), g, dr, tk, os⟩ :=
    I1.laid (t' := tk) (a := hp.objs.size + 1) (o := exo (hp.objs.size + 1) C none) (h' := (hp.push (PySem.W.kdv_tup us)).push (PySem.HandSPX.excO C hp.objs.size)) kk hsz (exo_ok hget)
  have r2 : Vals (V.ref (hp.objs.size + 1) :: (vs ++ dvs)) (Value.ref (hp.objs.size + 1) :: (us ++ ds)) := .cons rfl (r1.append hd)
  have hl : (Value.ref (hp.objs.size + 1) :: us ++ ds).length = ps.length := by
    have e := r2.length
    rw [F1.len _ _ _ _ hq] at e
    exact e.symm
  have hus : us.length ≤ sizeLine := by
    rw [← Paired.length r1, sizeLine_eq]
    omega
  refine wpAny_call (PySem.HandSPX.call_own F.excBase_ValueError (fun Y => PySem.HandSPX.refsVE_contains Y bm hbm) (I1.kIn _ _ hC) (PySem.W.looks_findIn I1.kIn iC) (fun self => PySem.W.bind_fn I1.kIn self tI) hus
    (codeAny_mono (F1.run _ X.stack _ _ ⟨Value.ref (hp.objs.size + 1) :: us, []⟩ (Value.ref (hp.objs.size + 1) :: (us ++ ds)) _ _ (fun _ _ _ => False) (hr.make C us []) (I2.env0.make C us []) (hb _ (Value.ref (hp.objs.size + 1) :: us) I2.kIn hl) r2 hq) fun r s' hq' => ?_))
  cases r with
  | error er => exact hx pins σ _ _ er s' I2 hq'
  | ok fl =>
    cases fl with
    | ret u =>
      obtain ⟨v, H', I3, rv, ev, q3⟩ := I2.after hq'
      subst ev
      exact ⟨rv, ⟨V.ref (hp.objs.size + 1), H', I3, rfl, q3⟩⟩
    | next => exact False.elim hq'
    | brk => exact False.elim hq'
    | cont => exact False.elim hq'
end
/-! ### __init__(self, value): self.value = value -/
/-- the promise: the fresh error gets a dict of its own that holds the value -/
def spInit (K : PySem.W.Frag) : Sp := fun vs H Q _ => ∃ (a C fI : Addr) (v : V), vs = [.ref a, v] ∧ ErC K C fI ∧ H a = some (exo a C none) ∧ ∀ dx, H dx = none → dx ≠ a → Q .non (upd (upd H dx (exd dx [("value", v)])) a (exo a C (some dx)))
theorem ok_init {P : Program} {w : World} {K : PySem.W.Frag} {mg : Str → Option Value} {base : Heap} {q : Str} {st : Stmt} {f : Addr} {fd : FuncData} {p1 p2 p3 pos : Pos} (F : FunD K "__init__" q (defArgs st) (defBody st) (defScope st) [] [] f fd)
    (S : FnScope ["self", "value"] ["self", "value"] (defScope st)) (hb : defBody st = [.Assign [.Attribute (.Name "self" p1) "value" p2] (.Name "value" p3) pos])
    (v0 : Vis (defScope st) "self") (v1 : Vis (defScope st) "value") (hsw : ∀ env : Env, env.scope = defScope st → swapsWith (.Name "value" p3) (some (.Attribute (.Name "self" p1) "value" p2)) pos.line env = pure false) : FnOk P w K mg base CX0 1 f fd ["self", "value"] (spInit K) := by
  refine F.ok S (fun vs H Q E h => ?_) (fun cdv A outer s H vs Q E hr h => ?_)
  · obtain ⟨a, C, fI, v, rfl, _⟩ := h
    rfl
  · obtain ⟨a, C, fI, v, rfl, T, ha, k⟩ := h
    rw [hb]
    refine ⟨_, pss_one (ps_ost (pv 0 rfl v0) (pv 1 rfl v1) (hsw _ rfl)), ?_⟩
    exact ⟨v, rfl, .ref a, rfl, a, C, rfl, T.oex, T.nv, .inl ⟨ha, fun dx h1 h2 => k dx h1 h2⟩⟩
end Er
set_option Elab.async false
set_option linter.all false
set_option maxRecDepth 100000
set_option maxHeartbeats 4000000
/-! Defs whose promise holds where no repr is under way (the guards are known to be none): what repr of a list, a tuple, a dict asks. -/
namespace Er
open PySem PySem.Spec PyProof.Rows L2
/-- as FnOk, at an around without guards -/
structure FnG (P : Program) (w : World) (K : PySem.W.Frag) (mg : Str → Option Value) (base : Heap) (CX : CXT) (k : Nat) (f : Addr) (fd : FuncData) (ps : List Str) (sp : Sp) : Prop where
  len : ∀ vs H Q E, sp vs H Q E → vs.length = ps.length
  run : ∀ (A : Around) (outer : List Env) (s : Shared) (H : Hp) (args : Args) (us : List Value) (vs : List V) (Q : VK) (E : XK), Room k A → A.guards = some [] →
    Env0 P w K mg base A outer s H → BindsTo s fd args (ps.zip us) → Vals vs us → sp vs H Q E → codeAny (model P w) A (.call (.ref f) args) (CR CX outer P w H s Q E) s
section
variable {P : Program} {w : World} {K : PySem.W.Frag} {mg : Str → Option Value} {base : Heap} {x qual : Str} {params : Arguments} {body : List Stmt} {scope : Scope} {dvs : List V} {kws : List (Str × V)} {f : Addr} {fd : FuncData}
theorem okG {CX : CXT} {N ps : List Str} {k : Nat} {sp : Sp} (F : FunD K x qual params body scope dvs kws f fd) (S : FnScope N ps scope) (len : ∀ vs H Q E, sp vs H Q E → vs.length = ps.length)
    (hbody : ∀ (cdv : Value) (A : Around) (outer : List Env) (s : Shared) (H : Hp) (vs : List V) (Q : VK) (E : XK), Room k (A.deeper (envOfC qual scope s.heap.objs.size f cdv)) → A.guards = some [] → sp vs H Q E →
      ∃ t, PSs (cxOf CX P w K mg base N qual scope f cdv A outer s H E) body t ∧ t { nx := fun _ H' => Q .non H', rt := Q } (start N vs) H) : FnG P w K mg base CX (k + 1) f fd ps sp := by
  obtain ⟨oc, od, dV, kV, doc, pm, an, cdv, ct, osl, rfl, lk, hcd, _, _⟩ := F.ex
  refine ⟨len, fun A outer s H args us vs Q E hr hgd e0 hb r hsp => ?_⟩
  -- the def runs on its body's reading, as fn_of shows it for any around
  obtain ⟨t, ht, hq⟩ := hbody cdv A outer s H vs Q E (hr.deeper _) hgd hsp
  have KX : K.In s.heap := e0.mod.kin.keeps fun b o e => (e0.bs b o e).1
  refine codeAny_call_function hr.depth (KX _ _ lk) rfl S.co S.gen rfl (PySem.W.codeRec_of KX hcd) (hb _ _ _ _ ?_)
  refine wpAny_newFunctionEnv_cells S.kind (fun ⟨n, v⟩ hy => ?_) fun env he s1 x => ?_
  · exact (S.par n (List.of_mem_zip hy).1).elim .inl fun q => .inr ⟨q, PySem.W.cellsFrom_some _ _ _ (.inl q)⟩
  subst he
  refine ⟨(e0.mod.nolimit.keeps fun b o e => (e0.bs b o e).1).keeps x.toInCall.keep, codeAny_func ?_⟩
  refine wpAny_mono (ht.run [] s1 (start N vs) H _ (inv_start S hr.hd e0 (len _ _ _ _ hsp) r x) hq) (fun fl s' hs => ?_) fun e s' hs => hs
  match fl, hs with
  | .ret u, ⟨v, σ', H', J, rv, q⟩ => exact ⟨v, H', J.os, J.bare, J.base, J.hok, rv, q⟩
  | .next, ⟨σ', H', J, q⟩ => exact ⟨.non, H', J.os, J.bare, J.base, J.hok, rfl, q⟩
  | .brk, ⟨_, _, _, q⟩ => exact q.elim
  | .cont, ⟨_, _, _, q⟩ => exact q.elim
end
section
variable {X : Cx} {CX : CXT} {k : Nat} {f : Addr} {fd : FuncData} {ps : List Str} {sp : Sp} {dvs : List V} {ds : List Value} {E : XK} {x : Str} {p pos : Pos} {e : Expr} {es : List Expr} {t : TA}
theorem run_fnG {pins : List (Addr × Obj)} {σ : L2.St} {H : Hp} {s : Shared} {Q : VK} {us : List Value} {vs : List V} (F : FnG X.prog X.w X.K X.mg X.base CX k f fd ps sp) (hr : Room k X.A) (hgd : X.A.guards = some []) (hb : Binds X.K fd ps ds)
    (hd : Vals dvs ds) (hx : Passes CX X E) (I : Inv X pins σ H s) (r : Vals vs us) (h : sp (vs ++ dvs) H Q E) : wpAny (model X.prog X.w) X.A (call (.ref f) us) (EP X pins σ Q) X.xe s := by
  have r2 : Vals (vs ++ dvs) (us ++ ds) := r.append hd
  have hl : (us ++ ds).length = ps.length := r2.length.symm.trans (F.len _ _ _ _ h)
  refine wpAny_call (codeAny_mono (F.run X.A X.stack s H ⟨us, []⟩ (us ++ ds) (vs ++ dvs) Q E hr hgd I.env0 (hb s us I.kIn hl) r2 h) fun r s' hq => ?_)
  match r, hq with
  | .error e, hq => exact hx pins σ H s e s' I hq
  | .ok (.ret u), hq => exact I.after hq
theorem pe_callG (F : FnG X.prog X.w X.K X.mg X.base CX k f fd ps sp) (hr : Room k X.A) (hgd : X.A.guards = some []) (hg : Gl X x) (hm : X.mg x = some (.ref f)) (hk : PySem.W.keepIn X.K (.ref f) = true) (hb : Binds X.K fd ps ds) (hd : Vals dvs ds) (hx : Passes CX X E)
    (ha : PA X (e :: es) t) (hdb : (x == ("__debug__" : Str)) = false := by decide) (he : starEach (e :: es) X.env = (false, eval e X.env) :: starEach es X.env := by rfl) (hpl : (backTo pos (starEach es X.env)).any (·.1) = false := by rfl) :
    PE X (.Call (.Name x p) (e :: es) [] pos) (tCall sp dvs E t) :=
  ⟨fun pins s σ H Q I h => wpAny_Call_Name_kw (ld_glob I hg hm
    (PySem.W.callWith_K (h₀ := X.base) I.ok.mod.kin hk (thn (ha.run pos pins s σ H _ I h) fun us s1 ⟨vs, H1, I1, r, q⟩ => ⟨I1.kIn, run_fnG F hr hgd hb hd hx I1 r q⟩) he hpl) hdb)⟩
end
/-! ### the end of a law over such a def -/
section
variable {P : Program} {w : World} {K : PySem.W.Frag} {mg mb : Str → Option Value} {CX : CXT} {k : Nat} {fa a : Addr} {fd : FuncData} {x : Str} {sp : Sp} {s₁ : Shared} {vs : List Value} {ns : List Int}
/-- from an abstract heap that tracks nothing but the script -/
theorem law_core {H : Hp} (KX : K.In s₁.heap) (hns : s₁.heap.Ns mainGlobals mg) (hb : s₁.heap.Ns builtinsNs mb) (hbb : ∀ x : Str, x ≠ "__name__" → mb x = bootBuiltins x) (hlim : s₁.heap.NoLimit) (hg : s₁.gens = #[])
    (ha : s₁.heap.get? a = some { cls := .type "list", data := .seq vs.toArray }) (hr : Room k callerA)
    (F : ∀ base : Heap, K.In base → base.Ns mainGlobals mg → FnG P w K mg base CX k fa fd [x] sp) (hbind : ∀ (s : Shared) (u : Value), BindsTo s fd ⟨[u], []⟩ [(x, u)])
    (hsp : sp [.ref a] H (fun v _ => v = .bl true) fun _ _ _ => False) (hCX : ∀ H e s', CX [] H s₁ (fun _ _ _ => False) e s' → False)
    (hO : Only H) (hok : HOk P w H s₁.heap) (hA : ∀ b, H b ≠ none → b = a) (hK : H a ≠ none → K.lookup a = none) :
    codeAny (model P w) callerA (.call (.ref fa) ⟨[.ref a], []⟩) (fun r s' => r = .ok (.ret (.bool true)) ∧ OldK s₁.heap s'.heap ∧ s'.os = s₁.os ∧ AllBare s'.gens) s₁ := by
  have out : ∀ {b : Addr} {Z : Prop}, (H b = none → Z) → (b = a → H a ≠ none → Z) → Z := fun {b Z} h1 h2 => by
    by_cases q : H b = none
    · exact h1 q
    · have e := hA b q
      exact h2 e (e ▸ q)
  have noA : ∀ {b : Addr} {o : Obj} {es : Array DictEntry} {ep : Nat}, s₁.heap.get? b = some o → o.data = .dict es ep → H b = none := fun {b o es ep} e d =>
    out id fun eb _ => by
      rw [eb, ha] at e
      cases e
      cases d
  have nsK : ∀ {b : Addr} {m : Str → Option Value}, s₁.heap.Ns b m → (hidT s₁.heap H).Ns b m := fun {b m} ⟨o, es, ep, e, d, r⟩ => ⟨o, es, ep, hidT_get e (noA e d), d, r⟩
  have hKb : K.In (hidT s₁.heap H) := fun b o e => hidT_get (KX b o e) (out id fun eb q => by
    rw [eb, hK q] at e
    cases e)
  obtain ⟨mc, l1, l2⟩ := hlim
  have e0 : Env0 P w K mg (hidT s₁.heap H) callerA [] s₁ H := ⟨rfl, ⟨hKb, nsK hns, ⟨mb, nsK hb, hbb⟩, ⟨mc, nsK l1, l2⟩⟩, fun b o e => of_hidT e, Nat.le_of_eq (hidT_size _ _), trivial, (fun b hb => nomatch hb), hok, .of_eq hg⟩
  refine codeAny_mono ((F _ hKb (nsK hns)).run callerA [] s₁ H ⟨[.ref a], []⟩ [.ref a] [.ref a] _ _ hr rfl e0 (hbind s₁ (.ref a)) (.cons rfl .nil) hsp) fun r s' h => ?_
  match r, h with
  | .error e, h => exact (hCX H e s' h).elim
  | .ok (.ret u), ⟨v, H', os, bare, un, hok', r', q⟩ =>
    have q' : v = .bl true := q
    subst q'
    obtain rfl : u = Value.bool true := r'
    refine ⟨rfl, OldK.of_keep fun b o e => ?_, os, bare⟩
    cases q : H b with
    | none => exact un.keep b o e q (fun z => nomatch z) (fun z => nomatch z)
    | some u =>
      rcases hO b with z | ⟨ob, xs, z⟩
      · rw [q] at z
        cases z
      · have e1 := (hok b _ z).1
        have e2 := (hok' b _ (un.frzs b ob _ z)).1
        rw [e] at e1
        cases e1
        exact e2
theorem law_callG (KX : K.In s₁.heap) (hns : s₁.heap.Ns mainGlobals mg) (hb : s₁.heap.Ns builtinsNs mb) (hbb : ∀ x : Str, x ≠ "__name__" → mb x = bootBuiltins x) (hlim : s₁.heap.NoLimit) (hg : s₁.gens = #[])
    (ha : s₁.heap.get? a = some { cls := .type "list", data := .seq vs.toArray }) (hi : IntsAre vs ns) (hl : ns.length ≤ sizeLine) (hr : Room k callerA)
    (F : ∀ base : Heap, K.In base → base.Ns mainGlobals mg → FnG P w K mg base CX k fa fd [x] sp) (hbind : ∀ (s : Shared) (u : Value), BindsTo s fd ⟨[u], []⟩ [(x, u)])
    (hsp : ∀ H : Hp, Only H → SqL K H a (ns.map V.int) → sp [.ref a] H (fun v _ => v = .bl true) fun _ _ _ => False) (hCX : ∀ H e s', CX [] H s₁ (fun _ _ _ => False) e s' → False) :
    codeAny (model P w) callerA (.call (.ref fa) ⟨[.ref a], []⟩) (fun r s' => r = .ok (.ret (.bool true)) ∧ OldK s₁.heap s'.heap ∧ s'.os = s₁.os ∧ AllBare s'.gens) s₁ := by
  have rv := vals_ints hi
  cases hk : K.lookup a with
  | some o =>
    -- the script is one of the module's own objects
    have e := (KX a o hk).symm.trans ha
    cases e
    exact law_core (H := fun _ => none) KX hns hb hbb hlim hg ha hr F hbind
      (hsp _ (fun _ => .inl rfl) (.inr ⟨_, vs.toArray, _, hk, rfl, rfl, rfl, by rw [List.size_toArray, hi.length]; exact hl, by simpa using rv⟩)) hCX (fun _ => .inl rfl) (fun b u z => nomatch (show (none : Option HO) = some u from z)) (fun b z => absurd rfl z) fun z => absurd rfl z
  | none =>
    -- it is tracked as a thing that is only read
    let H : Hp := fun b => if b = a then some (.frz { cls := .type "list", data := .seq vs.toArray } (.lst (ns.map V.int))) else none
    have at_ : H a = some (.frz { cls := .type "list", data := .seq vs.toArray } (.lst (ns.map V.int))) := if_pos rfl
    have off : ∀ {b : Addr}, b ≠ a → H b = none := fun h => if_neg h
    have only : Only H := fun b => by
      by_cases e : b = a
      · exact .inr ⟨_, _, if_pos e⟩
      · exact .inl (off e)
    refine law_core (H := H) KX hns hb hbb hlim hg ha hr F hbind (hsp H only (.inl (.inr ⟨_, at_⟩))) hCX only (fun b u z => ?_) (fun b z => ?_) fun _ => hk
    · by_cases e : b = a
      · subst e
        cases at_.symm.trans z
        exact ⟨ha, by rw [List.length_map]; exact hl, vs, _, rv, ha⟩
      · cases (off e).symm.trans z
    · by_cases e : b = a
      · exact e
      · exact absurd (off e) z
end
theorem walk_ofG {l : PySem.W.OpenLaw} {n k : Nat} {q : Program} {loose : List Str} {XP : (Str → Option Value) → Heap → Prop} {YP : World → Heap → Prop} {d : DefRec} {CX : World → CXT} {x : Str}
    (hn : l.most = some n) (hn2 : n ≤ sizeLine) (hdf : d.params.defaults = []) (hr : Room k callerA)
    (F : ∀ (w : World) (mg : Str → Option Value) (fa : Addr) (h : Heap), YP w h → h.Ns mainGlobals mg → mg d.name = some (.ref fa) → ∃ (K : PySem.W.Frag) (fd : FuncData) (sp : Sp), K.In h ∧ (∀ (s : Shared) (u : Value), BindsTo s fd ⟨[u], []⟩ [(x, u)]) ∧
      (∀ (H : Hp) (a : Addr) (ns : List Int), ns.length ≤ n → Only H → SqL K H a (ns.map V.int) → sp [.ref a] H (fun v _ => v = .bl true) fun _ _ _ => False) ∧ ∀ base : Heap, K.In base → base.Ns mainGlobals mg → FnG l.prog w K mg base (CX w) k fa fd [x] sp)
    (hCX : ∀ (w : World) (H : Hp) (s : Shared) (e : Value) (s' : Shared), CX w [] H s (fun _ _ _ => False) e s' → False) : PySem.W.WalkO q loose XP YP l.row.toRowW d [] (fun f vs => PySem.call f vs) := by
  refine Att.attach_call hn hdf fun w s₀ s₁ mg mb fa o pm cd doc a vs ns G Y ho hd hcd hmg hobj hints hlen hg => ?_
  obtain ⟨K, fd, sp, KX, hb, hsp, hF⟩ := F w mg fa _ Y G.T.g hmg
  exact law_callG KX G.T.g G.T.b G.T.builtins G.T.nolimit hg hobj hints (Nat.le_trans hlen hn2) hr hF hb (fun H hO hS => hsp H a ns hlen hO hS) fun H e s' => hCX w H s₁ e s'
end Er
set_option Elab.async false
set_option linter.all false
set_option maxRecDepth 100000
set_option maxHeartbeats 4000000
/-! repr of data: none, bools, ints, texts, lists, tuples, dicts with int and text keys. -/
namespace Er
open PySem PySem.Spec PyProof.Rows L2
/-- sys.modules stands in the written part -/
def SysIn (K : PySem.W.Frag) : Prop := ∃ o, K.lookup sysModules = some o ∧ o.cls = .type "dict"
def sysB (K : PySem.W.Frag) : Bool := match K.lookup sysModules with
  | some o => decide (o.cls = .type "dict")
  | none => false
theorem sysB_ok {K : PySem.W.Frag} (h : sysB K = true) : SysIn K := by
  unfold sysB at h
  cases q : K.lookup sysModules with
  | none => rw [q] at h; cases h
  | some o => rw [q] at h; exact ⟨o, q, of_decide_eq_true h⟩
def keyD : Key → PyData
  | .inl i => .int i
  | .inr x => .str x
mutual
inductive Sh (K : PySem.W.Frag) (H : Hp) : V → PyData → Prop
  | non : Sh K H .non .none
  | bl (b : Bool) : Sh K H (.bl b) (.bool b)
  | int (i : Int) : Sh K H (.int i) (.int i)
  | str (x : Str) : Sh K H (.str x) (.str x)
  | lst {a : Addr} {xs : List V} {ds : List PyData} : SqL K H a xs → ShAll K H xs ds → Sh K H (.ref a) (.list ds)
  | tup {a : Addr} {xs : List V} {ds : List PyData} : SqT K H a xs → ShAll K H xs ds → Sh K H (.ref a) (.tuple ds)
  | dic {a : Addr} {kvs : List (Key × V)} {ds : List (PyData × PyData)} : H a = some (.dK kvs) → ds.map (·.1) = kvs.map (fun q => keyD q.1) → ShAll K H (kvs.map (·.2)) (ds.map (·.2)) → Sh K H (.ref a) (.dict ds)
inductive ShAll (K : PySem.W.Frag) (H : Hp) : List V → List PyData → Prop
  | nil : ShAll K H [] []
  | cons {v : V} {vs : List V} {d : PyData} {ds : List PyData} : Sh K H v d → ShAll K H vs ds → ShAll K H (v :: vs) (d :: ds)
end
theorem sameT {K : PySem.W.Frag} {H H' : Hp} {a : Addr} {xs : List V} (e : Same H H') (h : SqT K H a xs) : SqT K H' a xs := by
  rcases h with (h | ⟨o, h⟩) | h
  · exact .inl (.inl (e _ _ h))
  · exact .inl (.inr ⟨o, e _ _ h⟩)
  · exact .inr h
mutual
theorem Sh.same {K : PySem.W.Frag} {H H' : Hp} (e : Same H H') : ∀ {v : V} {d : PyData}, Sh K H v d → Sh K H' v d
  | _, _, .non => .non
  | _, _, .bl b => .bl b
  | _, _, .int i => .int i
  | _, _, .str x => .str x
  | _, _, .lst hs ha => .lst (e.seq hs) (ShAll.same e ha)
  | _, _, .tup hs ha => .tup (sameT e hs) (ShAll.same e ha)
  | _, _, .dic hs hk ha => .dic (e _ _ hs) hk (ShAll.same e ha)
theorem ShAll.same {K : PySem.W.Frag} {H H' : Hp} (e : Same H H') : ∀ {vs : List V} {ds : List PyData}, ShAll K H vs ds → ShAll K H' vs ds
  | _, _, .nil => .nil
  | _, _, .cons h t => .cons (Sh.same e h) (ShAll.same e t)
end
theorem keys_read {P : Program} {w : World} {h : Heap} : ∀ {kvs : List (Key × V)} {vs : List (Key × Value)} {es : List DictEntry}, KV kvs vs → Pairs (mixKind P w) es vs → ReadsAll h (es.map (·.key)) (kvs.map fun q => keyD q.1) []
  | [], _, _, r, p => by
    cases r
    cases p
    exact .nil
  | q :: kvs, _, es, r, p => by
    cases r with
    | cons r1 r2 =>
      cases p with
      | cons p1 pv p2 =>
        have ih := keys_read (h := h) r2 p2
        refine ReadsAll.cons (as := []) (bs := []) ?_ ih
        obtain ⟨k, v⟩ := q
        have e1 := r1.1
        have q1 := p1
        rw [← e1] at q1
        cases k with
        | inl i =>
          obtain ⟨t, e⟩ := Value.isInt_shape (show Value.isInt i _ = true from q1)
          have z := Reads.int (h := h) i t
          rw [← e] at z
          exact z
        | inr x =>
          obtain ⟨t, e⟩ := Value.isStrOf_shape (show Value.isStrOf x _ = true from q1)
          have z := Reads.str (h := h) x t
          rw [← e] at z
          exact z
theorem vals_at {P : Program} {w : World} : ∀ {kvs : List (Key × V)} {vs : List (Key × Value)} {es : List DictEntry}, KV kvs vs → Pairs (mixKind P w) es vs → Vals (kvs.map (·.2)) (es.map (·.val))
  | [], _, _, r, p => by
    cases r
    cases p
    exact .nil
  | q :: kvs, _, es, r, p => by
    cases r with
    | cons r1 r2 =>
      cases p with
      | cons p1 pv p2 =>
        refine .cons ?_ (vals_at r2 p2)
        have z := r1.2
        rw [← pv] at z
        exact z
section
variable {X : Cx} {pins : List (Addr × Obj)} {σ : L2.St} {H : Hp} {s : Shared}
theorem not_sys (I : Inv X pins σ H s) (hS : SysIn X.K) {a : Addr} {o : Obj} (h : s.heap.get? a = some o) (hc : o.cls = .type "list") : a ≠ sysModules := fun e => by
  obtain ⟨o', l, c⟩ := hS
  have q := I.kIn _ _ l
  rw [← e, h] at q
  rw [← Option.some.inj q, hc] at c
  exact absurd c (by decide)
mutual
theorem Sh.reads (I : Inv X pins σ H s) (hS : SysIn X.K) : ∀ (d : PyData) (v : V) (u : Value), Sh X.K H v d → RelV v u → ∃ as, Reads s.heap u d as ∧ sysModules ∉ as
  | .none, _, _, h, r => by
    cases h
    cases r
    exact ⟨_, Reads.none, fun z => nomatch z⟩
  | .bool b, _, _, h, r => by
    cases h
    cases r
    exact ⟨_, Reads.bool b, fun z => nomatch z⟩
  | .int i, _, _, h, r => by
    cases h
    obtain ⟨t, rfl⟩ := r
    exact ⟨_, Reads.int i t, fun z => nomatch z⟩
  | .str x, _, _, h, r => by
    cases h
    obtain ⟨t, rfl⟩ := r
    exact ⟨_, Reads.str x t, fun z => nomatch z⟩
  | .list ds, _, _, h, r => by
    cases h with
    | lst hs ha =>
      cases r
      obtain ⟨its, rv, ⟨o, n, ho, hc, _, hd⟩, _⟩ := I.list hs
      obtain ⟨as, hr, hn⟩ := ShAll.reads I hS ds _ its ha rv
      refine ⟨_, Reads.list ho hc hd hr, fun z => ?_⟩
      rcases List.mem_cons.mp z with z | z
      · exact not_sys I hS ho hc z.symm
      · exact hn z
  | .tuple ds, _, _, h, r => by
    cases h with
    | tup hs ha =>
      cases r
      obtain ⟨its, rv, ⟨o, ho, hc, n, hd⟩, _⟩ := I.tuple hs
      obtain ⟨as, hr, hn⟩ := ShAll.reads I hS ds _ its ha rv
      exact ⟨_, Reads.tuple ho hc hd hr, hn⟩
  | .dict ds, _, _, h, r => by
    cases h with
    | dic hs hk ha =>
      cases r
      obtain ⟨_, hm, vs, hkv, o, es, ep, ho, hx, hd, _, hp, _⟩ := dk_of I.hok hs
      obtain ⟨bs, hr, hn⟩ := ShAll.readsKv I hS ds _ _ ha (vals_at hkv hp)
      have k := keys_read (h := s.heap) hkv hp
      rw [← hk] at k
      refine ⟨_, Reads.dict ho hx.1 hd k hr, fun z => ?_⟩
      rcases List.mem_cons.mp z with z | z
      · rw [z] at hm
        exact absurd hm (by simp)
      · exact hn z
theorem ShAll.readsKv (I : Inv X pins σ H s) (hS : SysIn X.K) : ∀ (ds : List (PyData × PyData)) (vs : List V) (us : List Value), ShAll X.K H vs (ds.map (·.2)) → Vals vs us → ∃ as, ReadsAll s.heap us (ds.map (·.2)) as ∧ sysModules ∉ as
  | [], _, _, h, r => by
    cases h
    cases r
    exact ⟨_, ReadsAll.nil, fun z => nomatch z⟩
  | (_, d) :: ds, _, _, h, r => by
    cases h with
    | cons h1 h2 =>
      cases r with
      | cons r1 r2 =>
        obtain ⟨as, q1, n1⟩ := Sh.reads I hS d _ _ h1 r1
        obtain ⟨bs, q2, n2⟩ := ShAll.readsKv I hS ds _ _ h2 r2
        exact ⟨_, ReadsAll.cons q1 q2, fun z => (List.mem_append.mp z).elim n1 n2⟩
theorem ShAll.reads (I : Inv X pins σ H s) (hS : SysIn X.K) : ∀ (ds : List PyData) (vs : List V) (us : List Value), ShAll X.K H vs ds → Vals vs us → ∃ as, ReadsAll s.heap us ds as ∧ sysModules ∉ as
  | [], _, _, h, r => by
    cases h
    cases r
    exact ⟨_, ReadsAll.nil, fun z => nomatch z⟩
  | d :: ds, _, _, h, r => by
    cases h with
    | cons h1 h2 =>
      cases r with
      | cons r1 r2 =>
        obtain ⟨as, q1, n1⟩ := Sh.reads I hS d _ _ h1 r1
        obtain ⟨bs, q2, n2⟩ := ShAll.reads I hS ds _ _ h2 r2
        exact ⟨_, ReadsAll.cons q1 q2, fun z => (List.mem_append.mp z).elim n1 n2⟩
end
end
/-- what repr asks of a datum -/
structure Shows (d : PyData) : Prop where
  ok : d.showable = true
  deep : d.depth ≤ 60
  size : d.shown.length ≤ sizeLine
/-- repr(x), x data -/
def rRepr (K : PySem.W.Frag) : List V → Hp → VK → Prop := fun xs H Q => ∃ (x : V) (d : PyData), xs = [x] ∧ Sh K H x d ∧ Shows d ∧ Q (.str d.shown) H
theorem call_repr {X : Cx} (hS : SysIn X.K) (hg : X.A.guards = some []) (hu : X.A.units + 64 < cLine) : CallR X (.builtin "repr") (rRepr X.K) := by
  intro pins s σ H xs us Q I r h
  obtain ⟨x, d, rfl, hx, hd, q⟩ := h
  obtain ⟨u, rfl, rx⟩ := vals1 r
  obtain ⟨as, hr, hn⟩ := Sh.reads I hS d x u hx rx
  cases hx with
  | non =>
    cases rx
    exact PySem.P.repr_of_none ⟨.str _, H, I.tok _, ⟨_, rfl⟩, q⟩
  | bl b =>
    cases rx
    exact PySem.P.repr_of_bool ⟨.str _, H, I.tok _, ⟨_, rfl⟩, q⟩
  | int i =>
    obtain ⟨t, rfl⟩ := rx
    exact PySem.P.repr_of_int (by have z := hd.ok; simpa [PyData.showable] using z) ⟨.str _, H, I.tok _, ⟨_, rfl⟩, q⟩
  | str x =>
    obtain ⟨t, rfl⟩ := rx
    exact PySem.P.repr_of_str ⟨.str _, H, I.tok _, ⟨_, rfl⟩, q⟩ hd.size
  | lst h1 h2 =>
    cases rx
    exact repr_of_reads' hr hd.ok (fun _ => hn) hg (by have := hd.deep; omega) (fun _ _ e => e) (fun h' u tk hk => ⟨.str _, H, I.un (Un.kept hk) (I.hok.kept hk), ⟨_, rfl⟩, q⟩) hd.size
  | tup h1 h2 =>
    cases rx
    exact repr_of_reads' hr hd.ok (fun _ => hn) hg (by have := hd.deep; omega) (fun _ _ e => e) (fun h' u tk hk => ⟨.str _, H, I.un (Un.kept hk) (I.hok.kept hk), ⟨_, rfl⟩, q⟩) hd.size
  | dic h1 h2 h3 =>
    cases rx
    exact repr_of_reads' hr hd.ok (fun _ => hn) hg (by have := hd.deep; omega) (fun _ _ e => e) (fun h' u tk hk => ⟨.str _, H, I.un (Un.kept hk) (I.hok.kept hk), ⟨_, rfl⟩, q⟩) hd.size
end Er
set_option Elab.async false
set_option linter.all false
set_option maxRecDepth 100000
set_option maxHeartbeats 4000000
/-! The head's facts: defs and names as He.hookD tells them, and one Bool of one's own beside them. -/
namespace Er
open PySem PySem.Spec PyProof.Rows L2
def obsX (xb : PySem.W.Frag → Bool) (fa : List He.Fa) (fn : List He.DefD) (K : PySem.W.Frag) : He.AlD := ((He.obsD fa fn K).1 && xb K, (He.obsD fa fn K).2)
def SaysX (xb : PySem.W.Frag → Bool) (fa : List He.Fa) (fn : List He.DefD) (K : PySem.W.Frag) : Prop := obsX xb fa fn K = He.valD fn
def asX (g : Addr → Option Obj) (n : Nat) : List Addr := He.asD g n ++ [sysModules]
def obsXG (n : Nat) (xb : PySem.W.Frag → Bool) (fa : List He.Fa) (fn : List He.DefD) (g : Addr → Option Obj) : He.AlD := obsX xb fa fn (He.frG g (asX g n))
def hookX (n : Nat) (xb : PySem.W.Frag → Bool) (fa : List He.Fa) (fn : List He.DefD) : PySem.W.Hook where
  α := He.AlD
  obs := fun s => obsXG n xb fa fn s.heap.get?
  val := fun _ => He.valD fn
  says := fun _ h => ∃ K : PySem.W.Frag, K.In h ∧ SaysX xb fa fn K
  of := fun _ _ e => ⟨_, He.frG_in, e⟩
  keeps := fun _ _ _ ⟨K, hK, c⟩ k => ⟨K, PySem.W.Frag.In.keeps hK k, c⟩
theorem obsXG_eq {n : Nat} {xb : PySem.W.Frag → Bool} {fa : List He.Fa} {fn : List He.DefD} {g : Addr → Option Obj} {s : Shared} (h : ∀ a, g a = s.heap.get? a) : obsXG n xb fa fn g = (hookX n xb fa fn).obs s := by
  have e : g = s.heap.get? := funext h
  rw [e] <;> rfl
theorem SaysX.two {xb : PySem.W.Frag → Bool} {fa : List He.Fa} {fn : List He.DefD} {K : PySem.W.Frag} (c : SaysX xb fa fn K) : He.SaysD fa fn K ∧ xb K = true := by
  have e1 : ((He.obsD fa fn K).1 && xb K) = true := congrArg (fun z : He.AlD => z.1) c
  have e2 : (He.obsD fa fn K).2 = fn.map He.DefD.val := congrArg (fun z : He.AlD => z.2) c
  obtain ⟨h1, h2⟩ := Bool.and_eq_true_iff.mp e1
  exact ⟨Prod.ext h1 e2, h2⟩
end Er
set_option Elab.async false
set_option linter.all false
set_option maxRecDepth 100000
set_option maxHeartbeats 4000000
/-! The law's own draws: a pot of three ints. -/
namespace Er
open PySem PySem.Spec PyProof.Rows L2
def CPowC (i j : Int) : Prop := (decide (0 ≤ j) && (!(j == 0) && (!(i == 0 || i == 1) && (!(i == -1) && !Builtin.Int.intTooBig (((Builtin.Int.intBits i : Nat) : Int) * j))))) = true
theorem op_powC {X : Cx} : OpR X (binaryOp .Pow) (rI CPowC fun i j => .int (i ^ j.toNat)) := opI fun i j t u s Q E hc q => by
  simp only [CPowC, Bool.and_eq_true, decide_eq_true_eq, Bool.not_eq_true'] at hc
  obtain ⟨h1, h2, h3, h4, h5⟩ := hc
  exact AutoIntOps.pow_4 h1 (by rw [h2]; decide) (by rw [h3]; decide) (by rw [h4]; decide) (by rw [h5]; decide) q
def Pot (H : Hp) (p : Addr) (n : Int) : Prop := ∃ a b c : Int, H p = some (.lst [.int a, .int b, .int c]) ∧ 0 ≤ a ∧ 0 ≤ b ∧ b < 2 ^ 61 ∧ 0 ≤ c ∧ c ≤ n ∧ n ≤ 100000
/-- what is tracked beside p -/
abbrev But (H : Hp) (p : Addr) : Hp := del H p
theorem but_upd {H : Hp} {p : Addr} {o : HO} : But (upd H p o) p = But H p := by
  funext b
  by_cases e : b = p
  · rw [e]
    exact del_same.trans del_same.symm
  · exact (del_ne e).trans ((upd_ne e).trans (del_ne e).symm)
theorem but_new {H : Hp} {p q : Addr} {o : HO} (hq : H q = none) (hp : H p ≠ none) : But (upd H q o) p = upd (But H p) q o := by
  have ne : q ≠ p := fun e => hp (e ▸ hq)
  funext b
  by_cases e : b = p
  · rw [e, upd_ne ne.symm]
    exact del_same.trans del_same.symm
  · show del (upd H q o) p b = upd (del H p) q o b
    rw [del_ne e]
    by_cases e2 : b = q
    · rw [e2, upd_same, upd_same]
    · rw [upd_ne e2, upd_ne e2, del_ne e]
theorem same_new {H : Hp} {q : Addr} {o : HO} (hq : H q = none) : Same H (upd H q o) := fun b u e => by
  rw [upd_ne (ne_of_none e hq)]
  exact e
theorem but_none {H : Hp} {p q : Addr} (h : H q = none) : But H p q = none := by
  by_cases e : q = p
  · rw [e]
    exact del_same
  · exact (del_ne e).trans h
theorem but_same {H : Hp} {p : Addr} : Same (But H p) H := fun b o e => by
  by_cases h : b = p
  · rw [h] at e
    exact absurd (del_same.symm.trans e) (fun z => nomatch z)
  · exact (del_ne h).symm.trans e
theorem same_but {H H' : Hp} {p : Addr} (s : Same H H') : Same (But H p) (But H' p) := fun b o e => by
  by_cases h : b = p
  · rw [h] at e
    exact absurd (del_same.symm.trans e) (fun z => nomatch z)
  · have e1 : H b = some o := (del_ne h).symm.trans e
    exact (del_ne h).trans (s b o e1)
def spTake : Sp := fun vs H Q _ => ∃ (p : Addr) (u n : Int), vs = [.ref p, .int u] ∧ 0 < u ∧ u < 1073741824 ∧ Pot H p n ∧ n < 100000 ∧
  ∀ (H' : Hp) (r : Int), Same (But H p) (But H' p) → Pot H' p (n + 1) → 0 ≤ r → r < u → Q (.int r) H'
end Er
namespace Er
open PySem PySem.Spec PyProof.Rows L2
/-! readings one step at a time -/
section
variable {t u : TS} {D : Ends} {σ : L2.St} {H : Hp} {te : TE} {ta tr : TA} {g : TG} {Q : VK} {r : R2} {ra : List V → Hp → VK → Prop} {tb : TE}
theorem i_seq (h : t { D with nx := u D } σ H) : tSeq t u D σ H := h
theorem i_asg (h : te σ H fun x H1 => g x σ H1 D.nx) : tAsg te g D σ H := h
theorem i_lst (h : ta σ H fun xs H1 => xs.length ≤ sizeLine ∧ ∀ p, H1 p = none → Q (.ref p) (upd H1 p (.lst xs))) : tLst ta σ H Q := h
theorem i_tup (h : ta σ H fun xs H1 => xs.length ≤ sizeLine ∧ ∀ p, H1 p = none → Q (.ref p) (upd H1 p (.tup xs))) : tTup ta σ H Q := h
theorem i_op (h : te σ H fun x H1 => tb σ H1 fun y H2 => r x y H2 Q) : tOp r te tb σ H Q := h
theorem i_cb (h : ta σ H fun vs H1 => ra vs H1 Q) : tCB ra ta σ H Q := h
theorem i_cons {Qa : List V → Hp → Prop} (h : te σ H fun x H1 => tr σ H1 fun xs H2 => Qa (x :: xs) H2) : tCons te tr σ H Qa := h
theorem i_nil {Qa : List V → Hp → Prop} (h : Qa [] H) : tNil σ H Qa := h
theorem i_set {i : Nat} (h : te σ H fun x H1 => u D (σ.set i (some x)) H1) : tSeq (tAsg te (gName i)) u D σ H := h
theorem i_do (h : te σ H fun _ H1 => u D σ H1) : tSeq (tDrop te) u D σ H := h
theorem i_ifs {c : TT} {t2 : TS} (h : c σ H fun b H1 => if b = true then t { D with nx := u D } σ H1 else t2 { D with nx := u D } σ H1) : tSeq (tIfS c t t2) u D σ H := h
theorem i_if0 {c : TT} (h : c σ H fun b H1 => if b = true then t { D with nx := u D } σ H1 else u D σ H1) : tSeq (tIfS c t tNext) u D σ H := h
theorem i_if1 {c : TT} (h : c σ H fun b H1 => if b = true then t D σ H1 else D.nx σ H1) : tIfS c t tNext D σ H := h
theorem i_drop (h : te σ H fun _ H1 => D.nx σ H1) : tDrop te D σ H := h
theorem i_ret (h : te σ H D.rt) : tRet te D σ H := h
theorem i_var {i : Nat} {v : V} (e : σ[i]? = some (some v)) (h : Q v H) : tVar i σ H Q := ⟨v, e, h⟩
theorem i_c {v : V} (h : Q v H) : tC v σ H Q := h
theorem i_if {c : TT} (h : c σ H fun b H1 => if b = true then t D σ H1 else u D σ H1) : tIfS c t u D σ H := h
theorem i_call {sp : Sp} {dvs : List V} {E : XK} (h : ta σ H fun vs H1 => sp (vs ++ dvs) H1 Q E) : tCall sp dvs E ta σ H Q := h
end
end Er
set_option Elab.async false
set_option linter.all false
set_option maxRecDepth 100000
set_option maxHeartbeats 4000000
/-! Data made anew, while the pot is drawn from. -/
namespace Er
open PySem PySem.Spec PyProof.Rows L2
/-- the abstract heap without some addresses -/
def hid (H : Hp) (l : List Addr) : Hp := fun b => if b ∈ l then none else H b
theorem hid_in {H : Hp} {l : List Addr} {b : Addr} (h : b ∈ l) : hid H l b = none := if_pos h
theorem hid_ne {H : Hp} {l : List Addr} {b : Addr} (h : b ∉ l) : hid H l b = H b := if_neg h
theorem hid_some {H : Hp} {l : List Addr} {b : Addr} {o : HO} (h : hid H l b = some o) : b ∉ l ∧ H b = some o := by
  by_cases e : b ∈ l
  · rw [hid_in e] at h
    cases h
  · exact ⟨e, (hid_ne e).symm.trans h⟩
theorem hid_same {H H' : Hp} {p : Addr} {l : List Addr} (s : Same (But H p) (But H' p)) : Same (hid H (p :: l)) (hid H' (p :: l)) := fun b o e => by
  obtain ⟨h1, h2⟩ := hid_some e
  rw [hid_ne h1]
  have ne : b ≠ p := fun z => h1 (z ▸ List.mem_cons_self ..)
  exact (del_ne ne).symm.trans (s b o ((del_ne ne).trans h2))
theorem hid_le {H : Hp} {p : Addr} {l : List Addr} : Same (hid H (p :: l)) (But H p) := fun b o e => by
  obtain ⟨h1, h2⟩ := hid_some e
  exact (del_ne (fun z => h1 (by rw [z]; exact List.mem_cons_self ..))).trans h2
theorem pot_some {H : Hp} {p : Addr} {n : Int} (h : Pot H p n) : H p ≠ none := by
  obtain ⟨a, b, c, e, _⟩ := h
  rw [e]
  exact fun z => nomatch z
theorem keep_some {H H' : Hp} {p b : Addr} (s : Same (But H p) (But H' p)) (hp : H' p ≠ none) (h : H b ≠ none) : H' b ≠ none := by
  by_cases e : b = p
  · rw [e]
    exact hp
  · intro z
    cases q : H b with
    | none => exact h q
    | some o =>
      have w := s b o ((del_ne e).trans q)
      rw [show But H' p b = H' b from del_ne e, z] at w
      cases w
theorem keep_none {H H' : Hp} {p b : Addr} (s : Same (But H p) (But H' p)) (hp : H' p ≠ none) (h : H' b = none) : H b = none := by
  cases q : H b with
  | none => rfl
  | some o => exact absurd h (keep_some s hp (by rw [q]; exact fun z => nomatch z))
/-- v is the datum d in objects that are new since H (and are not the pot) -/
def Fre (K : PySem.W.Frag) (H H' : Hp) (p : Addr) (v : V) (d : PyData) : Prop := ∀ l : List Addr, (∀ q ∈ l, H q ≠ none) → Sh K (hid H' (p :: l)) v d
def FreAll (K : PySem.W.Frag) (H H' : Hp) (p : Addr) (vs : List V) (ds : List PyData) : Prop := ∀ l : List Addr, (∀ q ∈ l, H q ≠ none) → ShAll K (hid H' (p :: l)) vs ds
theorem ShAll.len {K : PySem.W.Frag} {H : Hp} : ∀ {vs : List V} {ds : List PyData}, ShAll K H vs ds → vs.length = ds.length
  | _, _, .nil => rfl
  | _, _, .cons _ t => congrArg (· + 1) (ShAll.len t)
section
variable {K : PySem.W.Frag} {H H1 H2 : Hp} {p : Addr} {v : V} {d : PyData} {vs : List V} {ds : List PyData}
theorem FreAll.len (h : FreAll K H H1 p vs ds) : vs.length = ds.length := (h [] fun q z => nomatch z).len
theorem Fre.on (h : Fre K H H1 p v d) (s : Same (But H1 p) (But H2 p)) : Fre K H H2 p v d := fun l hl => (h l hl).same (hid_same s)
theorem FreAll.on (h : FreAll K H H1 p vs ds) (s : Same (But H1 p) (But H2 p)) : FreAll K H H2 p vs ds := fun l hl => (h l hl).same (hid_same s)
theorem Fre.back (h : Fre K H1 H2 p v d) (s : Same (But H p) (But H1 p)) (hp : H1 p ≠ none) : Fre K H H2 p v d := fun l hl => h l fun q hq => keep_some s hp (hl q hq)
theorem FreAll.back (h : FreAll K H1 H2 p vs ds) (s : Same (But H p) (But H1 p)) (hp : H1 p ≠ none) : FreAll K H H2 p vs ds := fun l hl => h l fun q hq => keep_some s hp (hl q hq)
theorem FreAll.cons (h : Fre K H H2 p v d) (t : FreAll K H H2 p vs ds) : FreAll K H H2 p (v :: vs) (d :: ds) := fun l hl => .cons (h l hl) (t l hl)
theorem ShAll.mem : ∀ {vs : List V} {ds : List PyData}, ShAll K H vs ds → v ∈ vs → ∃ d ∈ ds, Sh K H v d
  | _, _, .nil, h => nomatch h
  | _, _, .cons h1 h2, h => by
    rcases List.mem_cons.mp h with e | h
    · exact ⟨_, List.mem_cons_self .., e ▸ h1⟩
    · obtain ⟨d, m, s⟩ := ShAll.mem h2 h
      exact ⟨d, List.mem_cons_of_mem _ m, s⟩
theorem ShAll.at : ∀ {vs : List V} {ds : List PyData} {i : Nat} {v : V}, ShAll K H vs ds → vs[i]? = some v → ∃ d, ds[i]? = some d ∧ Sh K H v d
  | _, _, _, _, .nil, h => by simp at h
  | _, _, 0, v, .cons h1 h2, h => by
    simp at h
    exact ⟨_, rfl, h ▸ h1⟩
  | _, _, i + 1, v, .cons h1 h2, h => by
    obtain ⟨d, m, s⟩ := ShAll.at (i := i) h2 (by simpa using h)
    exact ⟨d, by simpa using m, s⟩
/-- one of a list's: the same place for every choice of hidden ones -/
theorem FreAll.mem (h : FreAll K H H1 p vs ds) (hv : v ∈ vs) : ∃ d ∈ ds, Fre K H H1 p v d := by
  obtain ⟨i, hi, e⟩ := List.getElem_of_mem hv
  have hi' : vs[i]? = some v := by rw [List.getElem?_eq_getElem hi, e]
  obtain ⟨d, hd, _⟩ := (h [] fun q z => nomatch z).at hi'
  refine ⟨d, List.mem_of_getElem? hd, fun l hl => ?_⟩
  obtain ⟨d', hd', s⟩ := (h l hl).at hi'
  rw [hd] at hd'
  cases hd'
  exact s
theorem FreAll.app {vs' : List V} {ds' : List PyData} (h : FreAll K H H1 p vs ds) (h' : FreAll K H H1 p vs' ds') : FreAll K H H1 p (vs ++ vs') (ds ++ ds') := fun l hl => by
  have key : ∀ {xs : List V} {es : List PyData}, ShAll K (hid H1 (p :: l)) xs es → ShAll K (hid H1 (p :: l)) (xs ++ vs') (es ++ ds') := by
    intro xs
    induction xs with
    | nil =>
      intro es a
      cases a
      exact h' l hl
    | cons x r ih =>
      intro es a
      cases a with
      | cons a1 a2 => exact .cons a1 (ih a2)
  exact key (h l hl)
theorem hid_new {q : Addr} {o : HO} {l : List Addr} (hq : H1 q = none) (hp : H1 p ≠ none) (hl : ∀ q ∈ l, H1 q ≠ none) : hid (upd H1 q o) (p :: l) q = some o := by
  rw [hid_ne, upd_same]
  intro z
  rcases List.mem_cons.mp z with e | e
  · exact hp (e ▸ hq)
  · exact hl q e hq
theorem but_mut {q : Addr} {o : HO} (hq : H q = none) (hp : H p ≠ none) (s : Same (But H p) (But H1 p)) : Same (But H p) (But (upd H1 q o) p) := fun b u e => by
  have hb : b ≠ p := fun z => by
    rw [z] at e
    exact absurd (del_same.symm.trans e) (fun z => nomatch z)
  have hbq : b ≠ q := fun z => by
    have e1 : H b = some u := (del_ne hb).symm.trans e
    rw [z, hq] at e1
    cases e1
  have w := s b u e
  rw [show But H1 p b = H1 b from del_ne hb] at w
  exact (del_ne hb).trans ((upd_ne hbq).trans w)
theorem but_fresh {q : Addr} {o : HO} (hq : H1 q = none) (hp : H1 p ≠ none) : Same (But H1 p) (But (upd H1 q o) p) := by
  rw [but_new hq hp]
  exact same_new (but_none hq)
end
/-! ### what evaluates to new data, c draws in all -/
def EvP (K : PySem.W.Frag) (te : TE) (σ : L2.St) (p : Addr) (c : Int) (R : PyData → Prop) : Prop := ∀ (H : Hp) (n : Int), Pot H p n → n + c ≤ 100000 → ∀ Q : VK,
  (∀ v d H', R d → Same (But H p) (But H' p) → Pot H' p (n + c) → Fre K H H' p v d → Q v H') → te σ H Q
def EvPs (K : PySem.W.Frag) (ta : TA) (σ : L2.St) (p : Addr) (c : Int) (R : List PyData → Prop) : Prop := ∀ (H : Hp) (n : Int), Pot H p n → n + c ≤ 100000 → ∀ Q : List V → Hp → Prop,
  (∀ vs ds H', R ds → Same (But H p) (But H' p) → Pot H' p (n + c) → FreAll K H H' p vs ds → Q vs H') → ta σ H Q
theorem Pot.new {H : Hp} {p q : Addr} {n : Int} {o : HO} (h : Pot H p n) (hq : H q = none) : Pot (upd H q o) p n := by
  obtain ⟨a, b, c, e, r⟩ := h
  exact ⟨a, b, c, (upd_ne (ne_of_none e hq)).trans e, r⟩
theorem Pot.zero {H : Hp} {p : Addr} {n : Int} (h : Pot H p n) : Pot H p (n + 0) := by rw [Int.add_zero]; exact h
section
variable {K : PySem.W.Frag} {σ : L2.St} {p : Addr} {c c1 c2 : Int} {te : TE} {ta : TA} {R : PyData → Prop} {Rs : List PyData → Prop}
theorem evP_c {v : V} {d : PyData} (h : ∀ H, Sh K H v d) (r : R d) : EvP K (tC v) σ p 0 R := fun H n hp _ Q k => k v d H r (Same.refl _) hp.zero fun l _ => h _
theorem evPs_nil (r : Rs []) : EvPs K tNil σ p 0 Rs := fun H n hp _ Q k => k [] [] H r (Same.refl _) hp.zero fun l _ => .nil
theorem evPs_cons (h : EvP K te σ p c1 R) (t : EvPs K ta σ p c2 Rs) (h1 : 0 ≤ c1) (h2 : 0 ≤ c2) : EvPs K (tCons te ta) σ p (c1 + c2) (fun ds => ∃ d r, ds = d :: r ∧ R d ∧ Rs r) := fun H n hp hn Q k =>
  h H n hp (by omega) _ fun v d H1 rd s1 p1 f1 => t H1 (n + c1) p1 (by omega) _ fun vs ds H2 rs s2 p2 f2 =>
    k (v :: vs) (d :: ds) H2 ⟨d, ds, rfl, rd, rs⟩ (s1.trans s2) (by rw [← Int.add_assoc]; exact p2) (.cons (f1.on s2) (f2.back s1 (pot_some p1)))
theorem evP_tup (h : EvPs K ta σ p c Rs) (hl : ∀ ds, Rs ds → ds.length ≤ 1000) (hr : ∀ ds, Rs ds → R (.tuple ds)) : EvP K (tTup ta) σ p c R := fun H n hp hn Q k =>
  h H n hp hn _ fun vs ds H1 rs s1 p1 f1 => ⟨Nat.le_of_lt (small1000 (f1.len ▸ hl ds rs)), fun q hq =>
    k (.ref q) (.tuple ds) _ (hr ds rs) (s1.trans (but_fresh hq (pot_some p1))) (p1.new hq) fun l hl => .tup (.inl (.inl (hid_new hq (pot_some p1) fun b hb => keep_some s1 (pot_some p1) (hl b hb)))) ((f1.on (but_fresh hq (pot_some p1))) l hl)⟩
theorem evP_lst (h : EvPs K ta σ p c Rs) (hl : ∀ ds, Rs ds → ds.length ≤ 1000) (hr : ∀ ds, Rs ds → R (.list ds)) : EvP K (tLst ta) σ p c R := fun H n hp hn Q k =>
  h H n hp hn _ fun vs ds H1 rs s1 p1 f1 => ⟨Nat.le_of_lt (small1000 (f1.len ▸ hl ds rs)), fun q hq =>
    k (.ref q) (.list ds) _ (hr ds rs) (s1.trans (but_fresh hq (pot_some p1))) (p1.new hq) fun l hl => .lst (.inl (.inl (hid_new hq (pot_some p1) fun b hb => keep_some s1 (pot_some p1) (hl b hb)))) ((f1.on (but_fresh hq (pot_some p1))) l hl)⟩
theorem evP_d0 (r : R (.dict [])) : EvP K tDNewK σ p 0 R := fun H n hp hn Q k q hq =>
  k (.ref q) (.dict []) _ r (but_fresh hq (pot_some hp)) (hp.new hq).zero fun l hl => .dic (kvs := []) (hid_new hq (pot_some hp) hl) rfl .nil
theorem evP_d1 {x : Str} (h : EvP K te σ p c R) {R' : PyData → Prop} (hr : ∀ d, R d → R' (.dict [(.str x, d)])) : EvP K (tDisp [(tC (.str x), te)]) σ p c R' := fun H n hp hn Q k q hq => by
  have hpq : Pot (upd H q (.dK [])) p n := hp.new hq
  have s0 := but_fresh (o := .dK []) hq (pot_some hp)
  refine h _ n hpq hn _ fun v d H1 rd s1 p1 f1 => ?_
  have ne : q ≠ p := fun e => pot_some hp (e ▸ hq)
  have e1 : H1 q = some (.dK []) := by
    have w := s1 q (.dK []) ((del_ne ne).trans upd_same)
    exact (del_ne ne).symm.trans w
  refine ⟨e1, [(.inr x, v)], rfl, Nat.le_of_ble_eq_true rfl, ?_⟩
  show Q (.ref q) (upd H1 q (.dK [(.inr x, v)]))
  have s2 : Same (But H p) (But (upd H1 q (.dK [(.inr x, v)])) p) := but_mut hq (pot_some hp) (s0.trans s1)
  obtain ⟨a, b, c', e, r⟩ := p1
  refine k (.ref q) (.dict [(.str x, d)]) _ (hr d rd) s2 ⟨a, b, c', (upd_ne ne.symm).trans e, r⟩ fun l hl => ?_
  have hql : q ∉ p :: l := fun z => by
    rcases List.mem_cons.mp z with z | z
    · exact ne z
    · exact hl q z hq
  refine .dic (kvs := [(.inr x, v)]) ((hid_ne hql).trans upd_same) rfl (.cons ?_ .nil)
  -- the value was made while the dict stood hidden
  have w := f1 (q :: l) fun b hb => by
    rcases List.mem_cons.mp hb with z | z
    · rw [z, upd_same]
      exact fun z => nomatch z
    · rw [upd_ne (fun y => hl b z (by rw [y]; exact hq))]
      exact hl b z
  refine w.same fun b o z => ?_
  obtain ⟨z1, z2⟩ := hid_some z
  have b1 : b ≠ q := fun y => z1 (y ▸ List.mem_cons_of_mem _ (List.mem_cons_self ..))
  have b2 : b ∉ p :: l := fun y => z1 (by
    rcases List.mem_cons.mp y with y | y
    · exact y ▸ List.mem_cons_self ..
    · exact List.mem_cons_of_mem _ (List.mem_cons_of_mem _ y))
  exact (hid_ne b2).trans ((upd_ne b1).trans z2)
theorem EvP.imp {R' : PyData → Prop} (h : EvP K te σ p c R) (f : ∀ d, R d → R' d) : EvP K te σ p c R' := fun H n hp hn Q k => h H n hp hn Q fun v d H' r => k v d H' (f d r)
end
end Er
namespace Er
open PySem PySem.Spec PyProof.Rows L2
/-! just this datum, no draw -/
abbrev EvD (K : PySem.W.Frag) (te : TE) (σ : L2.St) (p : Addr) (d : PyData) : Prop := EvP K te σ p 0 (fun z => z = d)
abbrev EvDs (K : PySem.W.Frag) (ta : TA) (σ : L2.St) (p : Addr) (ds : List PyData) : Prop := EvPs K ta σ p 0 (fun z => z = ds)
section
variable {K : PySem.W.Frag} {σ : L2.St} {p : Addr} {te : TE} {ta : TA} {d : PyData} {ds : List PyData}
theorem evD_c {v : V} (h : ∀ H, Sh K H v d) : EvD K (tC v) σ p d := evP_c h rfl
theorem evD_neg {i : Int} : EvD K (tUn (rU fun i => .int (-i)) (tC (.int i))) σ p (.int (-i)) := fun H n hp hn Q k => ⟨i, rfl, k (.int (-i)) _ H rfl (Same.refl _) hp.zero fun l _ => .int _⟩
theorem evD_pow {i j : Int} (h : CPowC i j) : EvD K (tOp (rI CPowC fun i j => .int (i ^ j.toNat)) (tC (.int i)) (tC (.int j))) σ p (.int (i ^ j.toNat)) := fun H n hp hn Q k =>
  ⟨i, j, rfl, rfl, h, k (.int (i ^ j.toNat)) _ H rfl (Same.refl _) hp.zero fun l _ => .int _⟩
theorem evDs_nil : EvDs K tNil σ p [] := evPs_nil rfl
theorem evDs_cons (h : EvD K te σ p d) (t : EvDs K ta σ p ds) : EvDs K (tCons te ta) σ p (d :: ds) := fun H n hp hn Q k =>
  evPs_cons h t (by decide) (by decide) H n hp hn Q fun vs es H' ⟨d', r, e, e1, e2⟩ => k vs es H' (by rw [e, e1, e2])
theorem evD_tup (h : EvDs K ta σ p ds) (hl : ds.length ≤ 1000) : EvD K (tTup ta) σ p (.tuple ds) := evP_tup h (fun _ e => e ▸ hl) fun _ e => by rw [e]
theorem evD_lst (h : EvDs K ta σ p ds) (hl : ds.length ≤ 1000) : EvD K (tLst ta) σ p (.list ds) := evP_lst h (fun _ e => e ▸ hl) fun _ e => by rw [e]
theorem evD_d0 : EvD K tDNewK σ p (.dict []) := evP_d0 rfl
theorem evD_d1 {x : Str} (h : EvD K te σ p d) : EvD K (tDisp [(tC (.str x), te)]) σ p (.dict [(.str x, d)]) := evP_d1 h fun _ e => by rw [e]
end
end Er
set_option Elab.async false
set_option linter.all false
set_option maxRecDepth 100000
set_option maxHeartbeats 4000000
/-! Lists of errors made with one value; what isinstance says of each. -/
namespace Er
open PySem PySem.Spec PyProof.Rows L2
def Errs (K : PySem.W.Frag) (H : Hp) (es : List Addr) (xs : List Str) (v : V) : Prop := Paired (fun (e : Addr) (x : Str) => ∃ d, ErrAt H e (He.ga K x) d v) es xs
theorem Errs.same {K : PySem.W.Frag} {H H' : Hp} {v : V} (s : Same H H') : ∀ {es : List Addr} {xs : List Str}, Errs K H es xs v → Errs K H' es xs v
  | _, _, .nil => .nil
  | _, _, .cons ⟨d, h⟩ t => .cons ⟨d, h.same s⟩ (Errs.same s t)
theorem Errs.app {K : PySem.W.Frag} {H : Hp} {v : V} : ∀ {es es' : List Addr} {xs xs' : List Str}, Errs K H es xs v → Errs K H es' xs' v → Errs K H (es ++ es') (xs ++ xs') v
  | _, _, _, _, .nil, h => h
  | _, _, _, _, .cons a t, h => .cons a (Errs.app t h)
theorem Errs.len {K : PySem.W.Frag} {H : Hp} {v : V} : ∀ {es : List Addr} {xs : List Str}, Errs K H es xs v → es.length = xs.length
  | _, _, .nil => rfl
  | _, _, .cons _ t => congrArg (· + 1) (Errs.len t)
theorem Errs.at {K : PySem.W.Frag} {H : Hp} {v : V} : ∀ {es : List Addr} {xs : List Str} {i : Nat} {e : Addr}, Errs K H es xs v → es[i]? = some e → ∃ x d, xs[i]? = some x ∧ ErrAt H e (He.ga K x) d v
  | _, _, _, _, .nil, h => by simp at h
  | _, _, 0, e, .cons ⟨d, a⟩ t, h => by
    simp at h
    exact ⟨_, d, rfl, h ▸ a⟩
  | _, _, i + 1, e, .cons a t, h => by
    obtain ⟨x, d, h1, h2⟩ := Errs.at (i := i) t (by simpa using h)
    exact ⟨x, d, by simpa using h1, h2⟩
theorem exo_lst {e C : Addr} {d : Option Addr} {xs : List V} : exo e C d ≠ .lst xs := fun z => by
  have z' : HO.ext _ = HO.lst xs := z
  cases z'
theorem exd_lst {e : Addr} {fs : List (Str × V)} {xs : List V} : exd e fs ≠ .lst xs := fun z => by
  have z' : HO.ext _ = HO.lst xs := z
  cases z'
/-- a list written leaves the errors as they were -/
theorem ErrAt.put {H : Hp} {e C d l : Addr} {v : V} {xs : List V} {o : HO} (h : ErrAt H e C d v) (hl : H l = some (.lst xs)) : ErrAt (upd H l o) e C d v :=
  ⟨(upd_ne (ne_of h.1 hl exo_lst)).trans h.1, (upd_ne (ne_of h.2 hl exd_lst)).trans h.2⟩
theorem Errs.put {K : PySem.W.Frag} {H : Hp} {v : V} {l : Addr} {ys : List V} {o : HO} (hl : H l = some (.lst ys)) : ∀ {es : List Addr} {xs : List Str}, Errs K H es xs v → Errs K (upd H l o) es xs v
  | _, _, .nil => .nil
  | _, _, .cons ⟨d, h⟩ t => .cons ⟨d, h.put hl⟩ (Errs.put hl t)
theorem same_mut {H H' : Hp} {p : Addr} {o : HO} (e : Same H H') (h : H p = none) : Same H (upd H' p o) := fun b u hb => by
  rw [upd_ne (ne_of_none hb h)]
  exact e b u hb
/-- from C(v): a new error -/
theorem mkv_err {K : PySem.W.Frag} {C fI : Addr} {v : V} {H : Hp} {Q : VK} {E : XK} (T : ErC K C fI) (k : ∀ a d H', Same H H' → ErrAt H' a C d v → Q (.ref a) H') :
    ∀ a, H a = none → spInit K (.ref a :: ([v] ++ [])) (upd H a (exo a C none)) (fun w H2 => w = .non ∧ Q (.ref a) H2) E := fun a ha => by
  refine ⟨a, C, fI, v, rfl, T, upd_same, fun dx hdx ne => ⟨rfl, k a dx _ ?_ ⟨upd_same, (upd_ne ne).trans upd_same⟩⟩⟩
  have hd : H dx = none := by
    rw [upd_ne ne] at hdx
    exact hdx
  exact same_mut (same_mut (same_new ha) hd) ha
theorem i_mkv {K : PySem.W.Frag} {C fI : Addr} {v : V} {σ : L2.St} {H : Hp} {Q : VK} {i : Nat} (h : σ[i]? = some (some v)) (T : ErC K C fI) (k : ∀ a d H', Same H H' → ErrAt H' a C d v → Q (.ref a) H') : tMkV C (spInit K) [] (tCons (tVar i) tNil) σ H Q := by
  have z := mkv_err (E := fun _ _ _ => False) (H := H) (v := v) (Q := Q) T k
  exact ⟨v, h, (by decide : 1 ≤ 1000), z⟩
def mkAll (K : PySem.W.Frag) : List Str → TA
  | [] => tNil
  | x :: r => tCons (tMkV (He.ga K x) (spInit K) [] (tCons (tVar 0) tNil)) (mkAll K r)
theorem mk_ev {K : PySem.W.Frag} {fI : Addr} {σ : L2.St} {v : V} (hv : σ[0]? = some (some v)) : ∀ (xs : List Str), (∀ x ∈ xs, ErC K (He.ga K x) fI) → ∀ (H : Hp) (Q : List V → Hp → Prop),
    (∀ es H', Same H H' → Errs K H' es xs v → Q (es.map V.ref) H') → mkAll K xs σ H Q
  | [], _, H, Q, k => k [] H (Same.refl _) .nil
  | x :: r, hT, H, Q, k => by
    have z := mkv_err (E := fun _ _ _ => False) (H := H) (v := v) (Q := fun y H1 => mkAll K r σ H1 fun xs H2 => Q (y :: xs) H2) (hT x (List.mem_cons_self ..)) fun a d H1 s1 h1 =>
      mk_ev hv r (fun y hy => hT y (List.mem_cons_of_mem _ hy)) H1 _ fun es H2 s2 h2 => k (a :: es) H2 (s1.trans s2) (.cons ⟨d, h1.same s2⟩ h2)
    exact ⟨v, hv, (by decide : 1 ≤ 1000), z⟩
/-- found.extend([C(v), ..]) -/
theorem ext_made {K : PySem.W.Frag} {fI : Addr} {σ : L2.St} {v : V} {H0 H : Hp} {l : Addr} {es : List Addr} {ys : List Str} {Q : VK} (xs : List Str) (hT : ∀ x ∈ xs, ErC K (He.ga K x) fI) (h0 : σ[0]? = some (some v)) (h1 : σ[1]? = some (some (.ref l)))
    (hl : H l = some (.lst (es.map V.ref))) (he : Errs K H es ys v) (hn : ys.length + xs.length ≤ 1000) (h00 : H0 l = none) (s0 : Same H0 H)
    (k : ∀ es' H', H' l = some (.lst (es'.map V.ref)) → Errs K H' es' (ys ++ xs) v → Same H0 H' → Q .non H') : tBM K "list" rExtend (tVar 1) (tCons (tLst (mkAll K xs)) tNil) σ H Q := by
  refine ⟨.ref l, h1, .inl ⟨rfl, _, SqL.of hl⟩, ?_⟩
  refine i_cons (i_lst (mk_ev h0 xs hT H _ fun fs H1 s1 f1 => ⟨?_, fun q hq => ?_⟩))
  · rw [List.length_map, f1.len]
    exact Nat.le_of_lt (small1000 (by omega))
  · have s2 := s1.trans (same_new (o := .lst (fs.map V.ref)) hq)
    refine ⟨l, q, es.map V.ref, fs.map V.ref, rfl, rfl, s2 _ _ hl, upd_same, ?_, ?_⟩
    · rw [List.length_map, List.length_map, f1.len, he.len]
      exact Nat.le_of_lt (small1000 hn)
    · refine k (es ++ fs) _ ?_ (((he.same s2).put (s2 _ _ hl)).app ((f1.same (same_new hq)).put (s2 _ _ hl))) (same_mut (s0.trans s2) h00)
      rw [upd_same, List.map_append]
/-! ### isinstance, one class behind another -/
def isAll (K : PySem.W.Frag) : List Str → TA
  | [] => tNil
  | x :: r => tCons (tCB (rIsEr K) (tCons (tVar 0) (tCons (tC (.ref (He.ga K x))) tNil))) (isAll K r)
theorem is_ev {K : PySem.W.Frag} {C fI e d : Addr} {σ : L2.St} {v : V} {H : Hp} {g : Str → Bool} (T : ErC K C fI) (hE : ErrAt H e C d v) (hv : σ[0]? = some (some (.ref e))) : ∀ (xs : List Str), (∀ x ∈ xs, PySem.W.kitOne K (.ref C) (.ref (He.ga K x)) = some (g x)) →
    ∀ (Q : List V → Hp → Prop), Q (xs.map fun x => V.bl (g x)) H → isAll K xs σ H Q
  | [], _, Q, k => k
  | x :: r, hg, Q, k => ⟨.ref e, hv, e, C, fI, d, v, _, _, _, rfl, T, hE, fun w hw => hw, hg x (List.mem_cons_self ..), is_ev T hE hv r (fun y hy => hg y (List.mem_cons_of_mem _ hy)) _ k⟩
theorem ext_is {K : PySem.W.Frag} {C fI e d : Addr} {σ : L2.St} {v : V} {H0 H : Hp} {l : Addr} {zs : List V} {Q : VK} {g : Str → Bool} (xs : List Str) (T : ErC K C fI) (hE : ErrAt H e C d v) (h0 : σ[0]? = some (some (.ref e))) (h1 : σ[1]? = some (some (.ref l)))
    (hg : ∀ x ∈ xs, PySem.W.kitOne K (.ref C) (.ref (He.ga K x)) = some (g x)) (hl : H l = some (.lst zs)) (hn : zs.length + xs.length ≤ 1000) (h00 : H0 l = none) (s0 : Same H0 H)
    (k : ∀ H', H' l = some (.lst (zs ++ xs.map fun x => V.bl (g x))) → ErrAt H' e C d v → Same H0 H' → Q .non H') : tBM K "list" rExtend (tVar 1) (tCons (tLst (isAll K xs)) tNil) σ H Q := by
  refine ⟨.ref l, h1, .inl ⟨rfl, _, SqL.of hl⟩, ?_⟩
  refine i_cons (i_lst (is_ev T hE h0 xs hg _ ⟨?_, fun q hq => ?_⟩))
  · rw [List.length_map]
    exact Nat.le_of_lt (small1000 (by omega))
  · have s2 := same_new (o := .lst (xs.map fun x => V.bl (g x))) hq
    refine ⟨l, q, zs, xs.map fun x => V.bl (g x), rfl, rfl, s2 _ _ hl, upd_same, ?_, ?_⟩
    · rw [List.length_map]
      exact Nat.le_of_lt (small1000 hn)
    · exact k _ upd_same ((hE.same s2).put (s2 _ _ hl)) (same_mut (s0.trans s2) h00)
end Er
set_option Elab.async false
set_option linter.all false
set_option maxRecDepth 100000
set_option maxHeartbeats 4000000
namespace Er
open PySem PySem.Spec PyProof.Rows L2
/-- for i, x in enumerate(xs) -/
theorem for_enum {K : PySem.W.Frag} {a : Addr} {xs : List V} {g : TG} {tb : TS} {D : Ends} {σ : L2.St} {H : Hp} (Pv : Nat → L2.St → Hp → Prop) (h0 : Pv 0 σ H) (hl : ∀ i σ H, i ≤ xs.length → Pv i σ H → SqL K H a xs)
    (hs : ∀ i x σ H, xs[i]? = some x → Pv i σ H → ∀ T, H T = none → g (.ref T) σ (upd H T (.tup [.int (i : Nat), x])) fun σ2 H2 => tb { D with nx := Pv (i + 1), ct := Pv (i + 1), bk := D.nx } σ2 H2) (hd : ∀ σ H, Pv xs.length σ H → D.nx σ H) :
    ∃ W : Nat → Nat → L2.St → Hp → Prop, (∃ m, W 0 m σ H) ∧ ∀ i m σ H, W i m σ H →
      ((Ite K a).stop i H ∧ D.nx σ H) ∨ ((Ite K a).go i H ∧ ∃ N : L2.St → Hp → Prop, (∀ σ' H', N σ' H' → ∃ m', m' < m ∧ W (i + 1) m' σ' H') ∧ ∀ x H', (Ite K a).yld i H x H' → g x σ H' fun σ2 H2 => tb { D with nx := N, ct := N, bk := D.nx } σ2 H2) := by
  refine ⟨fun i m σ H => m + i = xs.length ∧ Pv i σ H, ⟨xs.length, rfl, h0⟩, fun i m σ H ⟨e, p⟩ => ?_⟩
  have q := hl i σ H (by omega) p
  cases m with
  | zero =>
    have ei : i = xs.length := by omega
    rw [ei] at p
    exact .inl ⟨⟨xs, q, by omega⟩, hd σ H p⟩
  | succ m =>
    have hlt : i < xs.length := by omega
    refine .inr ⟨⟨xs, xs[i], q, List.getElem?_eq_getElem hlt⟩, Pv (i + 1), fun σ' H' p' => ⟨m, Nat.lt_succ_self _, by omega, p'⟩, fun v H' ⟨T, x, ev, hT, eH, hx⟩ => ?_⟩
    rw [ev, eH]
    exact hs i x σ H (hx xs q) p T hT
/-- what a for asks, its source known -/
def ForR (J : It) (g : TG) (tb : TS) (D : Ends) (af : L2.St → Hp → Prop) (σ : L2.St) (H : Hp) : Prop := ∃ W : Nat → Nat → L2.St → Hp → Prop, (∃ m, W 0 m σ H) ∧ ∀ i m σ H, W i m σ H →
  (J.stop i H ∧ af σ H) ∨ (J.go i H ∧ ∃ N : L2.St → Hp → Prop, (∀ σ' H', N σ' H' → ∃ m', m' < m ∧ W (i + 1) m' σ' H') ∧ ∀ x H', J.yld i H x H' → g x σ H' fun σ2 H2 => tb { D with nx := N, ct := N, bk := af } σ2 H2)
section
variable {u : TS} {D : Ends} {af : L2.St → Hp → Prop} {σ : L2.St} {H : Hp} {wi : TI} {g : TG} {tb : TS} {te : TE} {i : Nat} {ta : TA}
/-- a for in the middle of a block; at its end -/
theorem i_for (h : wi σ H fun J H1 => ForR J g tb D (u D) σ H1) : tSeq (tFor wi g tb) u D σ H := h
theorem i_for1 (h : wi σ H fun J H1 => ForR J g tb D D.nx σ H1) : tFor wi g tb D σ H := h
/-- what a comprehension asks, its source known: Qd what follows with the new list at D made -/
def LcR (J : It) (g : TG) (tt : TT) (te : TE) (vs : List Nat) (σ : L2.St) (H1 : Hp) (Dl : Addr) (Qd : Hp → Prop) : Prop := ∃ W : Nat → Nat → Hp → Prop, (∃ m, W 0 m (upd H1 Dl (.lst []))) ∧ ∀ i m H, W i m H →
  (J.stop i H ∧ Qd H) ∨ (J.go i H ∧ ∃ Nx : Hp → Prop, (∀ H', Nx H' → ∃ m', m' < m ∧ W (i + 1) m' H') ∧ ∀ x H', J.yld i H x H' → g x (wipe σ vs) H' fun σ2 H2 => wipe σ2 vs = wipe σ vs ∧ tt σ2 H2 fun b H3 =>
    if b = true then te σ2 H3 fun y H4 => ∃ acc, H4 Dl = some (.lst acc) ∧ acc.length < sizeLine ∧ Nx (upd H4 Dl (.lst (acc ++ [y]))) else Nx H3)
theorem i_lc {tt : TT} {vs : List Nat} {Q : VK} (h : wi σ H fun J H1 => ∀ Dl, H1 Dl = none → LcR J g tt te vs σ H1 Dl (Q (.ref Dl))) : tLc wi g tt te vs σ H Q := h
theorem lr_range {lo : Int} {n : Nat} {tt : TT} {vs : List Nat} {Dl : Addr} {Qd : Hp → Prop} (Pv : Nat → Hp → Prop) (h0 : Pv 0 (upd H Dl (.lst [])))
    (hs : ∀ i H, i < n → Pv i H → g (.int (lo + i)) (wipe σ vs) H fun σ2 H2 => wipe σ2 vs = wipe σ vs ∧ tt σ2 H2 fun b H3 =>
      if b = true then te σ2 H3 fun y H4 => ∃ acc, H4 Dl = some (.lst acc) ∧ acc.length < sizeLine ∧ Pv (i + 1) (upd H4 Dl (.lst (acc ++ [y]))) else Pv (i + 1) H3) (hd : ∀ H, Pv n H → Qd H) : LcR (Itr lo n) g tt te vs σ H Dl Qd := lc_range Pv h0 hs hd
theorem lr_list {K : PySem.W.Frag} {a : Addr} {xs : List V} {tt : TT} {vs : List Nat} {Dl : Addr} {Qd : Hp → Prop} (Pv : Nat → Hp → Prop) (h0 : Pv 0 (upd H Dl (.lst []))) (hl : ∀ i H, i ≤ xs.length → Pv i H → SqL K H a xs)
    (hs : ∀ i x H, xs[i]? = some x → Pv i H → g x (wipe σ vs) H fun σ2 H2 => wipe σ2 vs = wipe σ vs ∧ tt σ2 H2 fun b H3 =>
      if b = true then te σ2 H3 fun y H4 => ∃ acc, H4 Dl = some (.lst acc) ∧ acc.length < sizeLine ∧ Pv (i + 1) (upd H4 Dl (.lst (acc ++ [y]))) else Pv (i + 1) H3) (hd : ∀ H, Pv xs.length H → Qd H) : LcR (Itl K a) g tt te vs σ H Dl Qd := lc_list Pv h0 hl hs hd
theorem fr_range {lo : Int} {n : Nat} (Pv : Nat → L2.St → Hp → Prop) (h0 : Pv 0 σ H)
    (hs : ∀ i σ H, i < n → Pv i σ H → g (.int (lo + i)) σ H fun σ2 H2 => tb { D with nx := Pv (i + 1), ct := Pv (i + 1), bk := af } σ2 H2) (hd : ∀ σ H, Pv n σ H → af σ H) : ForR (Itr lo n) g tb D af σ H := for_range (D := { D with nx := af }) Pv h0 hs hd
theorem fr_list {K : PySem.W.Frag} {a : Addr} {xs : List V} (Pv : Nat → L2.St → Hp → Prop) (h0 : Pv 0 σ H) (hl : ∀ i σ H, i ≤ xs.length → Pv i σ H → SqL K H a xs)
    (hs : ∀ i x σ H, xs[i]? = some x → Pv i σ H → g x σ H fun σ2 H2 => tb { D with nx := Pv (i + 1), ct := Pv (i + 1), bk := af } σ2 H2) (hd : ∀ σ H, Pv xs.length σ H → af σ H) : ForR (Itl K a) g tb D af σ H := for_list (D := { D with nx := af }) Pv h0 hl hs hd
theorem fr_enum {K : PySem.W.Frag} {a : Addr} {xs : List V} (Pv : Nat → L2.St → Hp → Prop) (h0 : Pv 0 σ H) (hl : ∀ i σ H, i ≤ xs.length → Pv i σ H → SqL K H a xs)
    (hs : ∀ i x σ H, xs[i]? = some x → Pv i σ H → ∀ T, H T = none → g (.ref T) σ (upd H T (.tup [.int (i : Nat), x])) fun σ2 H2 => tb { D with nx := Pv (i + 1), ct := Pv (i + 1), bk := af } σ2 H2) (hd : ∀ σ H, Pv xs.length σ H → af σ H) :
    ForR (Ite K a) g tb D af σ H := for_enum (D := { D with nx := af }) Pv h0 hl hs hd
end
end Er
set_option Elab.async false
set_option linter.all false
set_option maxRecDepth 100000
set_option maxHeartbeats 0
namespace K00
open PySem PySem.Spec PyProof.Rows L2 Er
def top (i : Nat) : Stmt := PySem.Challenge.pw_dyedpours_k00_errors_keep_their_value.main.body.getD i (.Pass ⟨0, 0, 0, 0⟩)
def n1 : List Str := (["BadYard", "BadSpot", "NoVessel", "BadMoment", "BadStep", "Full", "BadSample", "Told", "NoSample", "NoStep", "NoEnd", "NoGlass", "Fixed", "OtherVessels", "Unlike", "BadAmount", "NotParted", "BadRow", "NotMixing", "TooMany"] : List PySem.Str) ++ (["BadCut", "BadLot", "NoMixing", "BadDyes", "BadWeights", "BadHeights"] : List PySem.Str)
def n2 : List Str := (["BadSpots", "BadNumbers", "OtherSteps", "BadMarks", "NoSource", "Great", "BadMost", "BadPrices", "BadQuestion", "BadAnswers", "BadQuestions", "BadBlock", "BadMany", "BadOffers", "BadWishes", "BadChoice", "BadVessels", "Same", "TooLittle", "Torn"] : List PySem.Str) ++ (["NothingToUndo", "NothingToRedo", "NoTrial", "BadJournal", "BadLine"] : List PySem.Str)
def errs : List Str := n1 ++ n2
def veC : List Value := [.type "ValueError", .type "Exception", .type "BaseException", .type "object"]
def fI (K : PySem.W.Frag) : Addr := He.ma K (He.ga K "PourError") "__init__"

abbrev sInit : Stmt := inClass (top 1) 0
abbrev s_pot : Stmt := top 54
abbrev s_take : Stmt := top 55
abbrev s_of : Stmt := top 56
abbrev s_cells : Stmt := top 57
abbrev s_odd : Stmt := top 58
abbrev s_all_made : Stmt := top 59
abbrev s_first_half : Stmt := top 60
abbrev s_second_half : Stmt := top 61
abbrev s_right : Stmt := top 62
abbrev s_law : Stmt := top 63
def mroB (K : PySem.W.Frag) (x : Str) (l : List Value) : Bool := decide ((PySem.W.clsIn K (He.ga K x)).map (·.mro) = some l)
def nodupB : List Nat → Bool
  | [] => true
  | x :: r => !r.contains x && nodupB r
def xb (K : PySem.W.Frag) : Bool := sysB K && (nodupB (He.ga K "PourError" :: errs.map (He.ga K)) && (erB K (He.ga K "PourError") (fI K) && (mroB K "PourError" (.ref (He.ga K "PourError") :: veC) && (PySem.W.kitMeta "ValueError" &&
  (errs.all fun x => erB K (He.ga K x) (fI K) && mroB K x (.ref (He.ga K x) :: .ref (He.ga K "PourError") :: veC))))))

def d_pot : He.DefD := ⟨("_law_pot", none), "_law_pot", "_law_pot", defArgs s_pot, defBody s_pot, defScope s_pot, [], []⟩
def d_take : He.DefD := ⟨("_law_take", none), "_law_take", "_law_take", defArgs s_take, defBody s_take, defScope s_take, [], []⟩
def d_of : He.DefD := ⟨("_law_of", none), "_law_of", "_law_of", defArgs s_of, defBody s_of, defScope s_of, [], []⟩
def d_cells : He.DefD := ⟨("_law_cells", none), "_law_cells", "_law_cells", defArgs s_cells, defBody s_cells, defScope s_cells, [], []⟩
def d_odd : He.DefD := ⟨("_law_odd", none), "_law_odd", "_law_odd", defArgs s_odd, defBody s_odd, defScope s_odd, [], []⟩
def d_all_made : He.DefD := ⟨("_law_all_made", none), "_law_all_made", "_law_all_made", defArgs s_all_made, defBody s_all_made, defScope s_all_made, [], []⟩
def d_first_half : He.DefD := ⟨("_law_first_half", none), "_law_first_half", "_law_first_half", defArgs s_first_half, defBody s_first_half, defScope s_first_half, [], []⟩
def d_second_half : He.DefD := ⟨("_law_second_half", none), "_law_second_half", "_law_second_half", defArgs s_second_half, defBody s_second_half, defScope s_second_half, [], []⟩
def d_right : He.DefD := ⟨("_law_right", none), "_law_right", "_law_right", defArgs s_right, defBody s_right, defScope s_right, [], []⟩
def d_law : He.DefD := ⟨("law", none), "law", "law", defArgs s_law, defBody s_law, defScope s_law, [], []⟩
def d_init : He.DefD := ⟨("PourError", some "__init__"), "__init__", "PourError.__init__", defArgs sInit, defBody sInit, defScope sInit, [], []⟩
def fn : List He.DefD := [d_init, d_pot, d_take, d_of, d_cells, d_odd, d_all_made, d_first_half, d_second_half, d_right, d_law]
def frees : List Str := (["len", "isinstance", "int", "abs", "range", "max", "min", "list", "repr", "enumerate", "all", "ValueError"] : List PySem.Str)
def gdefs : List Str := (["_law_pot", "_law_take", "_law_of", "_law_cells", "_law_odd", "_law_all_made", "_law_first_half", "_law_second_half", "_law_right", "law"] : List PySem.Str)
def fa : List He.Fa := frees.map He.Fa.free ++ (gdefs.map He.Fa.glo ++ (("PourError" : Str) :: errs).map He.Fa.glo)
abbrev R : PySem.W.OpenRow := PySem.W.OpenLaw.row PySem.Challenge.rw_dyedpours_k00_errors_keep_their_value
abbrev hk : PySem.W.Hook := hookX 5 xb fa fn
def ob (s : PySem.W.SharedT) : He.AlD := obsXG 5 xb fa fn (HandSHeadRun.getT s)
theorem ob_eq (s : PySem.W.SharedT) : ob s = hk.obs s.abs := obsXG_eq (HandSHeadRun.getT_eq s)
def loose1 : List PySem.Str := (["PourError", "BadYard", "BadSpot", "NoVessel", "BadMoment", "BadStep", "Full", "BadSample", "Told", "NoSample", "NoStep", "NoEnd", "NoGlass", "Fixed", "OtherVessels", "Unlike", "BadAmount", "NotParted", "BadRow", "NotMixing"] : List PySem.Str) ++ (["TooMany", "BadCut", "BadLot", "NoMixing", "BadDyes", "BadWeights", "BadHeights", "BadSpots", "BadNumbers", "OtherSteps", "BadMarks", "NoSource", "Great", "BadMost", "BadPrices", "BadQuestion", "BadAnswers", "BadQuestions", "BadBlock", "BadMany"] : List PySem.Str)
def loose2 : List PySem.Str := (["BadOffers", "BadWishes", "BadChoice", "BadVessels", "Same", "TooLittle", "Torn", "NothingToUndo", "NothingToRedo", "NoTrial", "BadJournal", "BadLine", "_law_pot", "_law_take", "_law_of", "_law_cells", "_law_odd", "_law_all_made", "_law_first_half", "_law_second_half"] : List PySem.Str) ++ (["_law_right"] : List PySem.Str)

theorem run (w : World) : HandSHeadRun.RunEq R (PySem.W.view R.prog [63]) hk ob 20000 (loose1 ++ loose2) w := by
  intro os
  kernel_rfl
end K00
set_option Elab.async false
set_option linter.all false
set_option maxRecDepth 100000
set_option maxHeartbeats 4000000
namespace Er
open PySem PySem.Spec PyProof.Rows L2
theorem facts_all {fa : List He.Fa} {fn : List He.DefD} {K : PySem.W.Frag} (c : He.SaysD fa fn K) : ∀ f ∈ fa, f.ok K = true := fun f hf => by
  obtain ⟨i, h1, h2⟩ := List.getElem_of_mem hf
  exact c.fact i (f := f) (by rw [List.getElem?_eq_getElem h1, h2])
theorem nodup_inj {f : Str → Nat} : ∀ {l : List Str}, K00.nodupB (l.map f) = true → ∀ x ∈ l, ∀ y ∈ l, f x = f y → x = y
  | [], _, x, hx, _, _, _ => nomatch hx
  | a :: r, h, x, hx, y, hy, e => by
    have h' : (!(r.map f).contains (f a) && K00.nodupB (r.map f)) = true := h
    obtain ⟨h1, h2⟩ := Bool.and_eq_true_iff.mp h'
    have out : ∀ z ∈ r, f z ≠ f a := fun z hz q => by
      have m : (r.map f).contains (f a) = true := List.contains_iff_mem.mpr (q ▸ List.mem_map_of_mem hz)
      rw [m] at h1
      cases h1
    rcases List.mem_cons.mp hx with ex | hx'
    · rcases List.mem_cons.mp hy with ey | hy'
      · rw [ex, ey]
      · rw [ex] at e
        exact absurd e.symm (out y hy')
    · rcases List.mem_cons.mp hy with ey | hy'
      · rw [ey] at e
        exact absurd e (out x hx')
      · exact nodup_inj h2 x hx' y hy' e
theorem kit_ref {K : PySem.W.Frag} {C D : Addr} {m : Value} {l : List Value} (hm : (PySem.W.clsIn K C).map (·.mro) = some (m :: l)) (hD : PySem.W.hasDictIn K D = true) (tD : PySem.W.typeIn K (.ref D) = some (.type "type")) :
    PySem.W.kitOne K (.ref C) (.ref D) = some (decide (C = D) || (m :: l).contains (.ref D)) := by
  obtain ⟨cd, hcd, hmr⟩ := Option.map_eq_some_iff.mp hm
  obtain ⟨cD, hcD, _⟩ := PySem.W.any_some hD
  unfold PySem.W.kitOne
  by_cases e : C = D
  · rw [if_pos (by rw [e]; exact beq_self_eq_true _), decide_eq_true e]
    rfl
  · have e1 : (Value.ref C == Value.ref D) = false := beq_eq_false_iff_ne.mpr fun q => e (Value.ref.inj q)
    rw [e1, if_neg Bool.false_ne_true, decide_eq_false e, Bool.false_or]
    have e2 : ((PySem.W.clsIn K D).isSome && PySem.W.typeIn K (.ref D) == some (.type "type")) = true := by rw [hcD, tD] <;> rfl
    show (if _ then PySem.W.subIn K (.ref C) (.ref D) else none) = _
    rw [if_pos e2]
    show (PySem.W.clsIn K C).bind _ = _
    rw [hcd, Option.bind_some]
    have e3 : cd.mro = m :: l := hmr
    show (if cd.mro.isEmpty = true then none else some (cd.mro.contains (.ref D))) = _
    rw [e3]
    rfl
theorem kit_type {K : PySem.W.Frag} {C : Addr} {n : String} {m : Value} {l : List Value} (hm : (PySem.W.clsIn K C).map (·.mro) = some (m :: l)) (hk : PySem.W.kitMeta n = true) :
    PySem.W.kitOne K (.ref C) (.type n) = some ((m :: l).contains (.type n)) := by
  obtain ⟨cd, hcd, hmr⟩ := Option.map_eq_some_iff.mp hm
  show (if (Value.ref C == Value.type n) = true then some true else if PySem.W.kitMeta n = true then PySem.W.subIn K (.ref C) (.type n) else none) = _
  have e1 : (Value.ref C == Value.type n) = false := beq_eq_false_iff_ne.mpr fun q => nomatch q
  rw [e1, if_neg Bool.false_ne_true, if_pos hk]
  show (PySem.W.clsIn K C).bind _ = _
  rw [hcd, Option.bind_some]
  have e3 : cd.mro = m :: l := hmr
  show (if cd.mro.isEmpty = true then none else some (cd.mro.contains (.type n))) = _
  rw [e3]
  rfl
end Er
namespace K00
open PySem PySem.Spec PyProof.Rows L2 Er
def alls : List Str := "PourError" :: errs
structure Tx (K : PySem.W.Frag) (mg : Str → Option Value) : Prop where
  sys : SysIn K
  er : ∀ x ∈ alls, mg x = some (.ref (He.ga K x)) ∧ ErC K (He.ga K x) (fI K)
  fr : ∀ x ∈ frees, mg x = none
  gd : ∀ x ∈ gdefs, mg x = some (.ref (He.ga K x))
  kit : ∀ x ∈ alls, ∀ y ∈ errs, PySem.W.kitOne K (.ref (He.ga K x)) (.ref (He.ga K y)) = some (decide (x = y))
  kitP : ∀ x ∈ alls, PySem.W.kitOne K (.ref (He.ga K x)) (.ref (He.ga K "PourError")) = some true
  kitV : ∀ x ∈ alls, PySem.W.kitOne K (.ref (He.ga K x)) (.type "ValueError") = some true
theorem tx_of {K : PySem.W.Frag} {h : Heap} {mg : Str → Option Value} (X : K.In h) (G : h.Ns mainGlobals mg) (c : SaysX xb fa fn K) : Tx K mg := by
  obtain ⟨c1, c2⟩ := c.two
  have F := facts_all c1
  simp only [xb, Bool.and_eq_true, mroB, decide_eq_true_eq] at c2
  obtain ⟨x1, x2, x3, x4, x5, x6⟩ := c2
  have x6 : ∀ x ∈ errs, ErC K (He.ga K x) (fI K) ∧ (PySem.W.clsIn K (He.ga K x)).map (·.mro) = some (.ref (He.ga K x) :: .ref (He.ga K "PourError") :: veC) := fun x hx => by
    have z := List.all_eq_true.mp x6 x hx
    simp only [Bool.and_eq_true, decide_eq_true_eq] at z
    exact ⟨erB_ok z.1, z.2⟩
  have inj := nodup_inj (f := He.ga K) (l := alls) x2
  have er : ∀ x ∈ alls, ErC K (He.ga K x) (fI K) := fun x hx => by
    rcases List.mem_cons.mp hx with rfl | hx
    · exact erB_ok x3
    · exact (x6 x hx).1
  refine ⟨sysB_ok x1, fun x hx => ⟨He.glo_ok X G (F _ ?_), er x hx⟩, fun x hx => He.free_ok X G (F _ ?_), fun x hx => He.glo_ok X G (F _ ?_), fun x hx y hy => ?_, fun x hx => ?_, fun x hx => ?_⟩
  · exact List.mem_append_right _ (List.mem_append_right _ (List.mem_map_of_mem hx))
  · exact List.mem_append_left _ (List.mem_map_of_mem hx)
  · exact List.mem_append_right _ (List.mem_append_left _ (List.mem_map_of_mem hx))
  · have hy' : y ∈ alls := List.mem_cons_of_mem _ hy
    have ey := er y hy'
    have key : ∀ l : List Value, (∀ z ∈ l, z = Value.ref (He.ga K x) ∨ z = .ref (He.ga K "PourError") ∨ z ∈ veC) → (decide (He.ga K x = He.ga K y) || l.contains (Value.ref (He.ga K y))) = decide (x = y) := fun l hl => by
      by_cases e : x = y
      · rw [decide_eq_true e, decide_eq_true (congrArg _ e)]
        rfl
      · have ne : ∀ z ∈ alls, z ≠ y → He.ga K z ≠ He.ga K y := fun z hz q w => q (inj z hz y hy' w)
        rw [decide_eq_false e, decide_eq_false (ne x hx e), Bool.false_or]
        refine Bool.eq_false_iff.mpr fun q => ?_
        have m := List.contains_iff_mem.mp q
        rcases hl _ m with z | z | z
        · exact ne x hx e (Value.ref.inj z).symm
        · have np : ("PourError" : Str) ≠ y := fun w => by
            rw [← w] at hy
            exact absurd hy (by decide +kernel)
          exact ne _ (List.mem_cons_self ..) np (Value.ref.inj z).symm
        · simp [veC] at z
    rcases List.mem_cons.mp hx with rfl | hx'
    · rw [kit_ref x4 ey.hd ey.oex.tyC, key]
      intro z hz
      rcases List.mem_cons.mp hz with z' | z'
      · exact .inl z'
      · exact .inr (.inr z')
    · rw [kit_ref (x6 x hx').2 ey.hd ey.oex.tyC, key]
      intro z hz
      rcases List.mem_cons.mp hz with z' | z'
      · exact .inl z'
      · rcases List.mem_cons.mp z' with z2 | z2
        · exact .inr (.inl z2)
        · exact .inr (.inr z2)
  · have ep := er "PourError" (List.mem_cons_self ..)
    rcases List.mem_cons.mp hx with rfl | hx'
    · rw [kit_ref x4 ep.hd ep.oex.tyC]
      simp
    · rw [kit_ref (x6 x hx').2 ep.hd ep.oex.tyC]
      simp
  · rcases List.mem_cons.mp hx with rfl | hx'
    · rw [kit_type x4 x5]
      simp [veC]
    · rw [kit_type (x6 x hx').2 x5]
      simp [veC]
end K00
set_option Elab.async false
set_option linter.all false
set_option maxRecDepth 100000
set_option maxHeartbeats 4000000
namespace K00
open PySem PySem.Spec PyProof.Rows L2 Er
section
variable {P : Program} {w : World} {K : PySem.W.Frag} {mg : Str → Option Value} {base : Heap} {f : Addr} {fd : FuncData}
theorem sc_take : FnScope ["pot", "upto", "digit", "prime", "blend"] ["pot", "upto"] (defScope s_take) := ⟨rfl, rfl, rfl, by decide +kernel, rfl, by decide +kernel, by decide +kernel⟩
theorem ok_take (T : Tx K mg) (F : FunD K "_law_take" "_law_take" (defArgs s_take) (defBody s_take) (defScope s_take) [] [] f fd) : FnOk P w K mg base CX0 1 f fd ["pot", "upto"] spTake := by
  refine F.ok sc_take (fun vs H Q E h => ?_) (fun cdv A outer s H vs Q E hr h => ?_)
  · obtain ⟨p, u, n, rfl, _⟩ := h
    rfl
  · obtain ⟨p, u, n, rfl, hu, hu2, ⟨a, b, c, hp, ha, hb, hb2, hc, hc2, hn⟩, hn2, k⟩ := h
    refine ⟨_, (pss_cons (ps_if (pt_cmpR op_gt (pe_ix ix_list (pv 0) pe_int (fun _ _ => rfl)) pe_int (nomark _))
        (pss_cons (ps_set (i := 2) sc_take.nd rfl (Or.inl rfl) (pe_op op_mod (pe_callTy call_int1 (by rfl) (T.fr "int" (by decide +kernel)) (by decide +kernel) (pa_cons (pe_ix ix_list (pv 0) pe_int (fun _ _ => rfl)) pa_nil)) (pv 1)))
        (pss_cons (ps_asg (pe_op op_fdiv (pe_ix ix_list (pv 0) pe_int (fun _ _ => rfl)) (pv 1)) (pg_sub (pv 0) pe_int set_list))
        (pss_one (ps_ret (pv 2)))))
        pss_nil)
      (pss_cons (ps_asg (pe_op op_add (pe_ix ix_list (pv 0) pe_int (fun _ _ => rfl)) pe_int) (pg_sub (pv 0) pe_int set_list))
      (pss_cons (ps_set (i := 3) sc_take.nd rfl (Or.inl rfl) (pe_ix ix_list (pe_lst (pa_cons pe_int (pa_cons pe_int (pa_cons pe_int (pa_cons pe_int (pa_cons pe_int pa_nil)))))) (pe_op op_mod (pe_callTy call_int1 (by rfl) (T.fr "int" (by decide +kernel)) (by decide +kernel) (pa_cons (pe_ix ix_list (pv 0) pe_int (fun _ _ => rfl)) pa_nil)) pe_int) (fun _ _ => rfl)))
      (pss_cons (ps_set (i := 4) sc_take.nd rfl (Or.inl rfl) (pe_op op_mod (pe_callTy call_int1 (by rfl) (T.fr "int" (by decide +kernel)) (by decide +kernel) (pa_cons (pe_op op_pow (pe_callTy call_int1 (by rfl) (T.fr "int" (by decide +kernel)) (by decide +kernel) (pa_cons (pe_op op_add (pe_op op_add (pe_ix ix_list (pv 0) pe_int (fun _ _ => rfl)) (pe_op op_mul (pe_op op_mul pe_int (pe_ix ix_list (pv 0) pe_int (fun _ _ => rfl))) (pe_ix ix_list (pv 0) pe_int (fun _ _ => rfl)))) pe_int) pa_nil)) pe_int) pa_nil)) (pv 3)))
      (pss_cons (ps_set (i := 4) sc_take.nd rfl (Or.inl rfl) (pe_op op_mod (pe_callTy call_int1 (by rfl) (T.fr "int" (by decide +kernel)) (by decide +kernel) (pa_cons (pe_op op_mul (pv 4) (pe_op op_add (pe_op op_mod (pe_callTy call_int1 (by rfl) (T.fr "int" (by decide +kernel)) (by decide +kernel) (pa_cons (pv 4) pa_nil)) pe_int) (pe_op op_mul pe_int (pe_ix ix_list (pv 0) pe_int (fun _ _ => rfl))))) pa_nil)) pe_int))
      (pss_one (ps_ret (pe_op op_mod (pe_callTy call_int1 (by rfl) (T.fr "int" (by decide +kernel)) (by decide +kernel) (pa_cons (pe_op op_fdiv (pv 4) pe_int) pa_nil)) (pv 1))))))))), ?_⟩
    refine ⟨.ref p, rfl, p, _, 0, .int a, rfl, rfl, SqL.of hp, rfl, a, 0, rfl, rfl, _, rfl, ite2 (fun e => ?_) (fun e => ?_)⟩
    · have ea : 0 < a := of_decide_eq_true e
      refine ⟨.ref p, rfl, p, _, 0, .int a, rfl, rfl, SqL.of hp, rfl, .inl ⟨a, rfl, .int u, rfl, a, u, rfl, rfl, hu, ?_⟩⟩
      refine ⟨.ref p, rfl, p, _, 0, .int a, rfl, rfl, SqL.of hp, rfl, .int u, rfl, a, u, rfl, rfl, ⟨hu, hu2⟩, .ref p, rfl, p, _, 0, 0, rfl, rfl, hp, rfl, ?_⟩
      refine ⟨_, rfl, k _ _ (by rw [but_upd]; exact Same.refl _) ⟨a / u, b, c, upd_same, Int.ediv_nonneg ha (by omega), hb, hb2, hc, by omega, by omega⟩ (Int.emod_nonneg _ (by omega)) (Int.emod_lt_of_pos _ hu)⟩
    · -- pot[2] = pot[2] + 1
      refine ⟨.ref p, rfl, p, _, 2, .int c, rfl, rfl, SqL.of hp, rfl, c, 1, rfl, rfl, .ref p, rfl, p, _, 2, 2, rfl, rfl, hp, rfl, ?_⟩
      have h1 : (upd H p (.lst [.int a, .int b, .int (c + 1)])) p = some (.lst [.int a, .int b, .int (c + 1)]) := upd_same
      have e1 : Same (But H p) (But (upd H p (.lst [.int a, .int b, .int (c + 1)])) p) := by rw [but_upd]; exact Same.refl _
      let H1 := upd H p (.lst [.int a, .int b, .int (c + 1)])
      change H1 p = _ at h1
      change Same (But H p) (But H1 p) at e1
      -- prime
      refine ⟨(by show 5 ≤ sizeLine; decide), fun q hq => ?_⟩
      have hp1 : H1 p ≠ none := by rw [h1]; exact fun z => nomatch z
      have ne : p ≠ q := fun e => hp1 (e ▸ hq)
      have e2 : Same (But H p) (But (upd H1 q (.lst [.int 2147483647, .int 2147483629, .int 2147483587, .int 2147483579, .int 2147483563])) p) := by
        have hq' : H1 q = none := hq
        rw [but_new hq' hp1]
        exact e1.trans (same_new (but_none hq'))
      have h2 : (upd H1 q (.lst [.int 2147483647, .int 2147483629, .int 2147483587, .int 2147483579, .int 2147483563])) p = some (.lst [.int a, .int b, .int (c + 1)]) := (upd_ne ne).trans h1
      refine ⟨.ref p, rfl, p, _, 2, .int (c + 1), rfl, rfl, SqL.of h2, rfl, .inl ⟨c + 1, rfl, c + 1, 5, rfl, rfl, (by decide : (0 : Int) < 5), ?_⟩⟩
      have hr0 : 0 ≤ (c + 1) % 5 := Int.emod_nonneg _ (by decide)
      have hr1 : (c + 1) % 5 < 5 := Int.emod_lt_of_pos _ (by decide)
      obtain ⟨z, hz, hz1, hz2⟩ : ∃ z : Int, atI [V.int 2147483647, V.int 2147483629, V.int 2147483587, V.int 2147483579, V.int 2147483563] ((c + 1) % 5) = some (.int z) ∧ 2147483563 ≤ z ∧ z ≤ 2147483647 := by
        have q5 : (c + 1) % 5 = 0 ∨ (c + 1) % 5 = 1 ∨ (c + 1) % 5 = 2 ∨ (c + 1) % 5 = 3 ∨ (c + 1) % 5 = 4 := by omega
        rcases q5 with e | e | e | e | e <;> rw [e]
        · exact ⟨2147483647, rfl, by decide, by decide⟩
        · exact ⟨2147483629, rfl, by decide, by decide⟩
        · exact ⟨2147483587, rfl, by decide, by decide⟩
        · exact ⟨2147483579, rfl, by decide, by decide⟩
        · exact ⟨2147483563, rfl, by decide, by decide⟩
      refine ⟨q, _, _, _, rfl, rfl, SqL.of upd_same, hz, ?_⟩
      -- blend, twice
      have cc : (c + 1) * (c + 1) ≤ 100000 * 100000 := Int.mul_le_mul (by omega) (by omega) (by omega) (by decide)
      have cc0 : 0 ≤ (c + 1) * (c + 1) := Int.mul_nonneg (by omega) (by omega)
      have cc1 : 98953 * (c + 1) * (c + 1) = 98953 * ((c + 1) * (c + 1)) := Int.mul_assoc _ _ _
      refine ⟨.ref p, rfl, p, _, 1, .int b, rfl, rfl, SqL.of h2, rfl, .ref p, rfl, p, _, 2, .int (c + 1), rfl, rfl, SqL.of h2, rfl, _, _, rfl, rfl, .inl ⟨by decide, by decide⟩, .ref p, rfl, p, _, 2, .int (c + 1), rfl, rfl, SqL.of h2, rfl, _, _, rfl, rfl, .inr ⟨by omega, by omega⟩, _, _, rfl, rfl, _, _, rfl, rfl, .inl ⟨_, rfl, _, _, rfl, rfl, ⟨by decide, by decide, ?_⟩, .inl ⟨_, rfl, _, rfl, _, _, rfl, rfl, (by show (0 : Int) < z; omega), ?_⟩⟩⟩
      · omega
      · have zp : (0 : Int) < z := by omega
        have zn : z ≠ 0 := by omega
        refine ⟨_, rfl, _, rfl, .inl ⟨_, rfl, _, _, rfl, rfl, (by decide : (0 : Int) < 10501), .ref p, rfl, p, _, 2, .int (c + 1), rfl, rfl, SqL.of h2, rfl, _, _, rfl, rfl, .inl ⟨by decide, by decide⟩, _, _, rfl, rfl, _, _, rfl, rfl, .inl ⟨Int.lt_of_lt_of_le (by decide) (Int.emod_nonneg _ zn), Int.lt_trans (Int.emod_lt_of_pos _ zp) (by omega)⟩, .inl ⟨_, rfl, _, _, rfl, rfl, (by decide : (0 : Int) < 2305843009213693907), ?_⟩⟩⟩
        refine ⟨_, rfl, _, _, rfl, rfl, ⟨by decide, by decide⟩, .inl ⟨_, rfl, _, rfl, _, _, rfl, rfl, hu, k _ _ e2 ⟨a, b, c + 1, h2, ha, hb, hb2, by omega, by omega, by omega⟩ (Int.emod_nonneg _ (by omega)) (Int.emod_lt_of_pos _ hu)⟩⟩
end
end K00
set_option Elab.async false
set_option linter.all false
set_option maxRecDepth 100000
set_option maxHeartbeats 4000000
namespace Er
open PySem PySem.Spec PyProof.Rows L2
def spOf (K : PySem.W.Frag) : Sp := fun vs H Q _ => ∃ (p l : Addr) (xs : List V) (n : Int), vs = [.ref p, .ref l] ∧ SqL K (But H p) l xs ∧ 0 < xs.length ∧ xs.length ≤ 1000 ∧ Pot H p n ∧ n < 100000 ∧
  ∀ (H' : Hp) (v : V), Same (But H p) (But H' p) → Pot H' p (n + 1) → v ∈ xs → Q v H'
def spPot (K : PySem.W.Frag) : Sp := fun vs H Q _ => ∃ (a : Addr) (ns : List Int) (i : Int), vs = [.ref a, .int i] ∧ SqL K H a (ns.map V.int) ∧ ns.length ≤ 63 ∧ 0 ≤ i ∧ i ≤ 10 ∧
  ∀ (H' : Hp) (p : Addr), Same H H' → H p = none → Pot H' p 0 → Q (.ref p) H'
def spCells (K : PySem.W.Frag) : Sp := fun vs H Q _ => ∃ (a : Addr) (ns : List Int) (i : Int), vs = [.ref a, .int i] ∧ SqL K H a (ns.map V.int) ∧ ns.length ≤ 63 ∧ 1 ≤ i ∧ i ≤ 10 ∧
  ∀ (H' : Hp) (p : Addr) (m : Nat), Same H H' → H p = none → m ≤ 10 → H' p = some (.lst ((List.range m).map fun j => V.int (j : Nat))) → Q (.ref p) H'
theorem tif_any {ta tb : TE} {σ : L2.St} {H : Hp} {Q : VK} {b : Bool} (h : ∀ z : Int, Q (.int z) H) (ha : (∀ z : Int, Q (.int z) H) → ta σ H Q) (hb : (∀ z : Int, Q (.int z) H) → tb σ H Q) : if b = true then ta σ H Q else tb σ H Q := by
  cases b with
  | true => exact iteT (ha h)
  | false => exact iteF (hb h)
theorem tif_any2 {ta tb : TE} {σ : L2.St} {H : Hp} {Q : VK} {b : Bool} (h : ∀ z : Int, Q (.int z) H) (ha : b = true → (∀ z : Int, Q (.int z) H) → ta σ H Q) (hb : (∀ z : Int, Q (.int z) H) → tb σ H Q) : if b = true then ta σ H Q else tb σ H Q := by
  cases b with
  | true => exact iteT (ha rfl h)
  | false => exact iteF (hb h)
theorem bit_ok (k : Bool) : -(2 ^ 64) < (if k = true then 1 else 0 : Int) ∧ (if k = true then 1 else 0 : Int) < 2 ^ 64 := by cases k <;> decide
theorem bit_nn (k : Bool) : 0 ≤ (if k = true then 1 else 0 : Int) := by cases k <;> decide
theorem sql_but {K : PySem.W.Frag} {H : Hp} {p l : Addr} {xs : List V} (h : SqL K (But H p) l xs) : SqL K H l xs := Same.seq but_same h
end Er
namespace K00
open PySem PySem.Spec PyProof.Rows L2 Er
section
variable {P : Program} {w : World} {K : PySem.W.Frag} {mg : Str → Option Value} {base : Heap} {f : Addr} {fd : FuncData}
theorem sc_of : FnScope ["pot", "some"] ["pot", "some"] (defScope s_of) := ⟨rfl, rfl, rfl, by decide +kernel, rfl, by decide +kernel, by decide +kernel⟩
theorem sc_pot : FnScope ["script", "place", "cell", "own", "small"] ["script", "place"] (defScope s_pot) := ⟨rfl, rfl, rfl, by decide +kernel, rfl, by decide +kernel, by decide +kernel⟩
theorem sc_cells : FnScope ["script", "limit"] ["script", "limit"] (defScope s_cells) := ⟨rfl, rfl, rfl, by decide +kernel, rfl, by decide +kernel, by decide +kernel⟩
abbrev FnT (K : PySem.W.Frag) (x : Str) (st : Stmt) (fd : FuncData) : Prop := FunD K x x (defArgs st) (defBody st) (defScope st) [] [] (He.ga K x) fd
theorem ok_of (T : Tx K mg) (F : FunD K "_law_of" "_law_of" (defArgs s_of) (defBody s_of) (defScope s_of) [] [] f fd) {fdT : FuncData} (FT : FnT K "_law_take" s_take fdT) (bT : Binds K fdT ["pot", "upto"] []) : FnOk P w K mg base CX0 2 f fd ["pot", "some"] (spOf K) := by
  have GT : FnOk P w K mg base CX0 1 _ fdT ["pot", "upto"] spTake := ok_take T FT
  refine F.ok sc_of (fun vs H Q E h => ?_) (fun cdv A outer s H vs Q E hr h => ?_)
  · obtain ⟨p, l, xs, n, rfl, _⟩ := h
    rfl
  · obtain ⟨p, l, xs, n, rfl, hl, h0, h1, hp, hn, k⟩ := h
    have hr1 := hr
    refine ⟨_, (pss_one (ps_ret (pe_ix ix_list (pv 1) (pe_call GT hr1 (by rfl) (T.gd "_law_take" (by decide +kernel)) FT.kp bT .nil pass0 (pa_cons (pv 0) (pa_cons (pe_callB call_len_seq (by rfl) (T.fr "len" (by decide +kernel)) PySem.boot_len (pa_cons (pv 1) pa_nil)) pa_nil))) (fun _ _ => rfl)))), ?_⟩
    refine ⟨.ref l, rfl, .ref p, rfl, .ref l, rfl, l, xs, rfl, .inl (sql_but hl), p, xs.length, n, rfl, by omega, by omega, hp, hn, fun H' r sm hp' r0 r1 => ?_⟩
    have hj : r.toNat < xs.length := by omega
    have er : r = ((r.toNat : Nat) : Int) := by omega
    have hi : xs[r.toNat]? = some xs[r.toNat] := List.getElem?_eq_getElem hj
    exact ⟨l, xs, r, xs[r.toNat], rfl, rfl, sql_but (sm.seq hl), (by have z := atI_nat (xs := xs) hi; rw [← er] at z; exact z), k H' _ sm hp' (List.getElem_mem hj)⟩
theorem ok_pot (T : Tx K mg) (F : FunD K "_law_pot" "_law_pot" (defArgs s_pot) (defBody s_pot) (defScope s_pot) [] [] f fd) : FnOk P w K mg base CX0 1 f fd ["script", "place"] (spPot K) := by
  refine F.ok sc_pot (fun vs H Q E h => ?_) (fun cdv A outer s H vs Q E hr h => ?_)
  · obtain ⟨a, ns, i, rfl, _⟩ := h
    rfl
  · obtain ⟨a, ns, i, rfl, hS, hl, h0, h1, k⟩ := h
    refine ⟨_, (pss_cons (ps_set (i := 2) sc_pot.nd rfl (Or.inl rfl) (pe_ifExp (pt_cmpR op_lt (pv 1) (pe_callB call_len_seq (by rfl) (T.fr "len" (by decide +kernel)) PySem.boot_len (pa_cons (pv 0) pa_nil)) (nomark _)) (pe_ix ix_list (pv 0) (pv 1) (fun _ _ => rfl)) (pe_op op_add (pe_op op_mul pe_int (pv 1)) pe_int)))
      (pss_cons (ps_set (i := 3) sc_pot.nd rfl (Or.inl rfl) (pe_op op_mul (pe_op op_mod (pe_callTy call_int1 (by rfl) (T.fr "int" (by decide +kernel)) (by decide +kernel) (pa_cons (pe_callB call_abs (by rfl) (T.fr "abs" (by decide +kernel)) (by decide +kernel) (pa_cons (pv 2) pa_nil)) pa_nil)) (pe_op op_powC (pe_op op_powC pe_int pe_int) pe_int)) (pe_callTy call_int1 (by rfl) (T.fr "int" (by decide +kernel)) (by decide +kernel) (pa_cons (pe_cmpR op_ge (pe_callB call_abs (by rfl) (T.fr "abs" (by decide +kernel)) (by decide +kernel) (pa_cons (pv 2) pa_nil)) (pe_op op_powC pe_int pe_int) (nomark _)) pa_nil))))
      (pss_cons (ps_set (i := 4) sc_pot.nd rfl (Or.inl rfl) (pe_op op_mod (pe_callTy call_int1 (by rfl) (T.fr "int" (by decide +kernel)) (by decide +kernel) (pa_cons (pv 2) pa_nil)) pe_int))
      (pss_one (ps_ret (pe_lst (pa_cons (pv 3) (pa_cons (pe_op op_mod (pe_callTy call_int1 (by rfl) (T.fr "int" (by decide +kernel)) (by decide +kernel) (pa_cons (pe_op op_add (pe_op op_add (pe_op op_mul (pv 4) pe_int) (pe_op op_mul (pe_op op_mul pe_int (pv 1)) (pv 1))) pe_int) pa_nil)) pe_int) (pa_cons pe_int pa_nil))))))))), ?_⟩
    refine ⟨.int i, rfl, .ref a, rfl, a, _, rfl, .inl hS, _, _, rfl, rfl, _, rfl, ?_⟩
    refine tif_any2 (fun cell => ?_) (fun hlt q => ?_) (fun q => ?_)
    · refine ⟨_, rfl, cell, rfl, .inl ⟨_, rfl, _, _, rfl, rfl, (by unfold CPowC; decide +kernel : CPowC 10 60), _, _, rfl, rfl, (by unfold CPowC; decide +kernel : CPowC (10 ^ Int.toNat 60) 5), _, _, rfl, rfl, (by decide +kernel : (0 : Int) < (10 ^ Int.toNat 60) ^ Int.toNat 5), ?_⟩⟩
      refine ⟨_, rfl, cell, rfl, _, _, rfl, rfl, (by unfold CPowC; decide +kernel : CPowC 10 18), _, _, rfl, rfl, .inr ⟨_, rfl, _, _, rfl, rfl, .inr (bit_ok _), ?_⟩⟩
      refine ⟨_, rfl, .inl ⟨_, rfl, _, _, rfl, rfl, (by decide : (0 : Int) < 2305843009213693951), ?_⟩⟩
      refine ⟨_, rfl, _, rfl, _, _, rfl, rfl, .inr ⟨by decide, by decide⟩, _, rfl, _, _, rfl, rfl, .inl ⟨by decide, by decide⟩, _, rfl, _, _, rfl, rfl, .inr ⟨by omega, by omega⟩, _, _, rfl, rfl, _, _, rfl, rfl, .inl ⟨_, rfl, _, _, rfl, rfl, (by decide : (0 : Int) < 2305843009213693921), (by show 3 ≤ sizeLine; decide), fun p hp => ?_⟩⟩
      refine k _ p (same_new hp) hp ⟨_, _, 0, upd_same, Int.mul_nonneg (Int.emod_nonneg _ (by decide +kernel)) (bit_nn _), Int.emod_nonneg _ (by decide), Int.lt_trans (Int.emod_lt_of_pos _ (by decide)) (by decide), by decide, by decide, by decide⟩
    · have hz : (0 : Int) ≤ i := h0
      have hi : i < ((ns.map V.int).length : Int) := of_decide_eq_true hlt
      have hj : i.toNat < ns.length := by rw [List.length_map] at hi; omega
      have er : i = ((i.toNat : Nat) : Int) := by omega
      have z := atI_nat (xs := ns.map V.int) (j := i.toNat) (v := .int ns[i.toNat]) (by rw [List.getElem?_map, List.getElem?_eq_getElem hj]; rfl)
      rw [← er] at z
      exact ⟨.ref a, rfl, .int i, rfl, a, _, i, _, rfl, rfl, hS, z, q _⟩
    · exact ⟨_, rfl, _, _, rfl, rfl, .inl ⟨by decide, by decide⟩, _, _, rfl, rfl, q _⟩
theorem ok_cells (T : Tx K mg) (F : FunD K "_law_cells" "_law_cells" (defArgs s_cells) (defBody s_cells) (defScope s_cells) [] [] f fd) : FnOk P w K mg base CX0 1 f fd ["script", "limit"] (spCells K) := by
  refine F.ok sc_cells (fun vs H Q E h => ?_) (fun cdv A outer s H vs Q E hr h => ?_)
  · obtain ⟨a, ns, i, rfl, _⟩ := h
    rfl
  · obtain ⟨a, ns, i, rfl, hS, hl, h0, h1, k⟩ := h
    refine ⟨_, (pss_one (ps_ret (pe_listRg rfl (by rfl) (T.fr "list" (by decide +kernel)) (prg_1 (by rfl) (T.fr "range" (by decide +kernel)) (pe_callB (call_max2 rfl) (by rfl) (T.fr "max" (by decide +kernel)) (by decide +kernel) (pa_cons pe_int (pa_cons (pe_callB (call_min2 rfl) (by rfl) (T.fr "min" (by decide +kernel)) (by decide +kernel) (pa_cons (pv 1) (pa_cons (pe_callB call_len_seq (by rfl) (T.fr "len" (by decide +kernel)) PySem.boot_len (pa_cons (pv 0) pa_nil)) pa_nil))) pa_nil))))))), ?_⟩
    have e : ((ns.map V.int).length : Int) = ns.length := by rw [List.length_map]
    refine ⟨_, rfl, .ref a, rfl, a, _, rfl, .inl hS, _, _, rfl, _, _, rfl, _, rfl, ?_⟩
    generalize hm : (if (if ((ns.map V.int).length : Int) < i then ((ns.map V.int).length : Int) else i) > 1 then (if ((ns.map V.int).length : Int) < i then ((ns.map V.int).length : Int) else i) else 1) = m
    have m1 : 1 ≤ m ∧ m ≤ 10 := by
      rw [← hm, e]
      constructor <;> (repeat' split) <;> omega
    refine ⟨RgOk.of_le (by decide) (by omega) (by decide) (by omega), fun p hp => k _ p m.toNat (same_new hp) hp (by omega) ?_⟩
    rw [upd_same]
    have e2 : rgV 0 m = (List.range m.toNat).map fun j => V.int (j : Nat) := by
      unfold rgV
      rw [show (m - 0).toNat = m.toNat by omega]
      exact List.map_congr_left fun j _ => by rw [Int.zero_add]
    rw [e2]
end
end K00
set_option Elab.async false
set_option linter.all false
set_option maxRecDepth 100000
set_option maxHeartbeats 4000000
namespace K00
open PySem PySem.Spec PyProof.Rows L2 Er
def od1 : List PyData := [.none, .bool true, .bool false, .int 0, .int 1, .int (-1), .int 7, .str "", .str "a", .str "by", .str "nosuch", .tuple [], .list [], .dict [], .tuple [.int 0], .tuple [.tuple []], .list [.int 0], .tuple [.str "a"], .tuple [.str "a", .int 0]]
def od2 : List PyData := [.tuple [.str "by", .int 0], .tuple [.str "in", .str "a", .int 1], .tuple [.tuple [.str "a", .int 0]], .tuple [.none], .dict [(.str "a", .int 1)], .str "A", .tuple [.int 0, .int 0], .tuple [.str "mixing", .tuple []], .int (10 ^ Int.toNat 8)]
def oddDs : List PyData := od1 ++ od2
def spOdd (K : PySem.W.Frag) : Sp := fun vs H Q _ => ∃ (p : Addr) (n : Int), vs = [.ref p] ∧ Pot H p n ∧ n < 100000 ∧ ∀ (H' : Hp) (v : V) (d : PyData), d ∈ oddDs → Same (But H p) (But H' p) → Pot H' p (n + 1) → Fre K H H' p v d → Q v H'
section
variable {P : Program} {w : World} {K : PySem.W.Frag} {mg : Str → Option Value} {base : Heap} {f : Addr} {fd : FuncData}
theorem sc_odd : FnScope ["pot", "some"] ["pot"] (defScope s_odd) := ⟨rfl, rfl, rfl, by decide +kernel, rfl, by decide +kernel, by decide +kernel⟩
theorem ok_odd (T : Tx K mg) (F : FunD K "_law_odd" "_law_odd" (defArgs s_odd) (defBody s_odd) (defScope s_odd) [] [] f fd) {fdO : FuncData} (GO : FnOk P w K mg base CX0 2 (He.ga K "_law_of") fdO ["pot", "some"] (spOf K)) (FO : FnT K "_law_of" s_of fdO) (bO : Binds K fdO ["pot", "some"] []) :
    FnOk P w K mg base CX0 3 f fd ["pot"] (spOdd K) := by
  refine F.ok sc_odd (fun vs H Q E h => ?_) (fun cdv A outer s H vs Q E hr h => ?_)
  · obtain ⟨p, n, rfl, _⟩ := h
    rfl
  · obtain ⟨p, n, rfl, hp, hn, k⟩ := h
    have hr1 := hr
    refine ⟨_, (pss_cons (ps_set (i := 1) sc_odd.nd rfl (Or.inl rfl) (pe_lst (pa_cons pe_non (pa_cons pe_bl (pa_cons pe_bl (pa_cons pe_int (pa_cons pe_int (pa_cons (pe_un un_neg pe_int) (pa_cons pe_int (pa_cons pe_str (pa_cons pe_str (pa_cons pe_str (pa_cons pe_str (pa_cons (pe_tup pa_nil) (pa_cons (pe_lst pa_nil) (pa_cons pe_dnewK (pa_cons (pe_tup (pa_cons pe_int pa_nil)) (pa_cons (pe_tup (pa_cons (pe_tup pa_nil) pa_nil)) (pa_cons (pe_lst (pa_cons pe_int pa_nil)) (pa_cons (pe_tup (pa_cons pe_str pa_nil)) (pa_cons (pe_tup (pa_cons pe_str (pa_cons pe_int pa_nil))) pa_nil)))))))))))))))))))))
      (pss_cons (ps_set (i := 1) sc_odd.nd rfl (Or.inl rfl) (pe_op op_cat (pv 1) (pe_lst (pa_cons (pe_tup (pa_cons pe_str (pa_cons pe_int pa_nil))) (pa_cons (pe_tup (pa_cons pe_str (pa_cons pe_str (pa_cons pe_int pa_nil)))) (pa_cons (pe_tup (pa_cons (pe_tup (pa_cons pe_str (pa_cons pe_int pa_nil))) pa_nil)) (pa_cons (pe_tup (pa_cons pe_non pa_nil)) (pa_cons (pe_disp (pps_cons pe_str pe_int pps_nil) (by rfl) (by rfl) (fun z => by cases z) (by decide)) (pa_cons pe_str (pa_cons (pe_tup (pa_cons pe_int (pa_cons pe_int pa_nil))) (pa_cons (pe_tup (pa_cons pe_str (pa_cons (pe_tup pa_nil) pa_nil))) (pa_cons (pe_op op_powC pe_int pe_int) pa_nil))))))))))))
      (pss_one (ps_ret (pe_call GO hr1 (by rfl) (T.gd "_law_of" (by decide +kernel)) FO.kp bO .nil pass0 (pa_cons (pv 0) (pa_cons (pv 1) pa_nil))))))), ?_⟩
    have e1 : ∀ σ, EvDs K _ σ p od1 := fun σ => (evDs_cons (evD_c fun _ => .non) (evDs_cons (evD_c fun _ => .bl _) (evDs_cons (evD_c fun _ => .bl _) (evDs_cons (evD_c fun _ => .int _) (evDs_cons (evD_c fun _ => .int _) (evDs_cons evD_neg (evDs_cons (evD_c fun _ => .int _) (evDs_cons (evD_c fun _ => .str _) (evDs_cons (evD_c fun _ => .str _) (evDs_cons (evD_c fun _ => .str _) (evDs_cons (evD_c fun _ => .str _) (evDs_cons (evD_tup evDs_nil (by decide)) (evDs_cons (evD_lst evDs_nil (by decide)) (evDs_cons evD_d0 (evDs_cons (evD_tup (evDs_cons (evD_c fun _ => .int _) evDs_nil) (by decide)) (evDs_cons (evD_tup (evDs_cons (evD_tup evDs_nil (by decide)) evDs_nil) (by decide)) (evDs_cons (evD_lst (evDs_cons (evD_c fun _ => .int _) evDs_nil) (by decide)) (evDs_cons (evD_tup (evDs_cons (evD_c fun _ => .str _) evDs_nil) (by decide)) (evDs_cons (evD_tup (evDs_cons (evD_c fun _ => .str _) (evDs_cons (evD_c fun _ => .int _) evDs_nil)) (by decide)) evDs_nil)))))))))))))))))))
    have e2 : ∀ σ, EvDs K _ σ p od2 := fun σ => (evDs_cons (evD_tup (evDs_cons (evD_c fun _ => .str _) (evDs_cons (evD_c fun _ => .int _) evDs_nil)) (by decide)) (evDs_cons (evD_tup (evDs_cons (evD_c fun _ => .str _) (evDs_cons (evD_c fun _ => .str _) (evDs_cons (evD_c fun _ => .int _) evDs_nil))) (by decide)) (evDs_cons (evD_tup (evDs_cons (evD_tup (evDs_cons (evD_c fun _ => .str _) (evDs_cons (evD_c fun _ => .int _) evDs_nil)) (by decide)) evDs_nil) (by decide)) (evDs_cons (evD_tup (evDs_cons (evD_c fun _ => .non) evDs_nil) (by decide)) (evDs_cons (evD_d1 (evD_c fun _ => .int _)) (evDs_cons (evD_c fun _ => .str _) (evDs_cons (evD_tup (evDs_cons (evD_c fun _ => .int _) (evDs_cons (evD_c fun _ => .int _) evDs_nil)) (by decide)) (evDs_cons (evD_tup (evDs_cons (evD_c fun _ => .str _) (evDs_cons (evD_tup evDs_nil (by decide)) evDs_nil)) (by decide)) (evDs_cons (evD_pow (by unfold CPowC; decide +kernel)) evDs_nil)))))))))
    refine i_set (i_lst ?_)
    refine e1 _ H n hp (by omega) _ fun vs ds H1 rd s1 p1 f1 => ?_
    subst rd
    refine ⟨by rw [f1.len]; decide, fun l hl => ?_⟩
    refine i_set (i_op (i_var (v := .ref l) rfl (i_lst ?_)))
    have p2 : Pot (upd H1 l (.lst vs)) p (n + 0) := p1.new hl
    have s2 := s1.trans (but_fresh (o := .lst vs) hl (pot_some p1))
    refine e2 _ _ _ p2 (by omega) _ fun ws es H2 re s3 p3 f3 => ?_
    subst re
    refine ⟨by rw [f3.len]; decide, fun l2 hl2 => ?_⟩
    have el : H2 l = some (.lst vs) := by
      have ne : l ≠ p := fun e => pot_some p1 (e ▸ hl)
      exact (del_ne ne).symm.trans (s3 l (.lst vs) ((del_ne ne).trans upd_same))
    have nl : l ≠ l2 := ne_of_none el hl2
    refine ⟨l, l2, vs, ws, rfl, rfl, (upd_ne nl).trans el, upd_same, by rw [f1.len, f3.len]; decide, fun l3 hl3 => ?_⟩
    have p4 : Pot (upd (upd H2 l2 (.lst ws)) l3 (.lst (vs ++ ws))) p (n + 0 + 0) := (p3.new hl2).new hl3
    have q3 : Pot (upd H2 l2 (.lst ws)) p (n + 0 + 0) := p3.new hl2
    have s4 := (s2.trans s3).trans ((but_fresh (o := .lst ws) hl2 (pot_some p3)).trans (but_fresh (o := .lst (vs ++ ws)) hl3 (pot_some q3)))
    have s5 := s3.trans ((but_fresh (o := .lst ws) hl2 (pot_some p3)).trans (but_fresh (o := .lst (vs ++ ws)) hl3 (pot_some q3)))
    have n3 : l3 ≠ p := fun e => pot_some q3 (e ▸ hl3)
    refine i_ret (i_call (i_cons (i_var (v := .ref p) rfl (i_cons (i_var (v := .ref l3) rfl (i_nil ?_))))))
    refine ⟨p, l3, vs ++ ws, n + 0 + 0, rfl, .inl (.inl ((del_ne n3).trans upd_same)), by rw [List.length_append, f1.len, f3.len]; decide, by rw [List.length_append, f1.len, f3.len]; decide, p4, by omega, fun H' v sm hp' hv => ?_⟩
    have all : FreAll K H H' p (vs ++ ws) oddDs := FreAll.app ((f1.on ((but_fresh (o := .lst vs) hl (pot_some p1)).trans s5)).on sm) (((f3.on ((but_fresh (o := .lst ws) hl2 (pot_some p3)).trans (but_fresh (o := .lst (vs ++ ws)) hl3 (pot_some q3)))).on sm).back s2 (pot_some p2))
    obtain ⟨d, hd, hf⟩ := all.mem hv
    exact k H' v d hd (s4.trans sm) (by have e : n + 0 + 0 + 1 = n + 1 := by omega
                                        rw [e] at hp'; exact hp') hf
end
end K00
set_option Elab.async false
set_option linter.all false
set_option maxRecDepth 100000
set_option maxHeartbeats 4000000
namespace K00
open PySem PySem.Spec PyProof.Rows L2 Er
theorem mem_at {l : List Str} {x : Str} (i : Nat) (h : l[i]? = some x) : x ∈ l := List.mem_of_getElem? h
def allsL : List Str := ["PourError", "BadYard"]
section
variable {X : Cx} {e : Expr} {es : List Expr} {ta : TA} {p p1 pos : Pos} {fdI : FuncData} {k : Nat}
theorem pe_mkE (T : Tx X.K X.mg) (GI : FnOk X.prog X.w X.K X.mg X.base CX0 1 (fI X.K) fdI ["self", "value"] (spInit X.K)) (bI : Binds X.K fdI ["self", "value"] []) (hr : Room 2 X.A) {x : Str} (hx : x ∈ alls) (hg : Gl X x) (ha : PA X (e :: es) ta)
    (hdb : (x == ("__debug__" : Str)) = false := by decide) (he : starEach (e :: es) X.env = (false, eval e X.env) :: starEach es X.env := by rfl) (hpl : (backTo pos (starEach es X.env)).any (·.1) = false := by rfl) :
    PE X (.Call (.Name x p) (e :: es) [] pos) (tMkV (He.ga X.K x) (spInit X.K) [] ta) :=
  pe_oexV (T.er x hx).2.oex (T.er x hx).2.init (T.er x hx).2.tI GI hr bI .nil pass0 hg (T.er x hx).1 ha hdb he hpl
theorem pe_isE (T : Tx X.K X.mg) (hi : Gl X "isinstance") {x : Str} (hx : x ∈ alls) (hg : Gl X x) {te : TE} (ha : PE X e te) (hdb : (x == ("__debug__" : Str)) = false := by decide)
    (he : starEach [e, .Name x p1] X.env = (false, eval e X.env) :: starEach [.Name x p1] X.env := by rfl) (he2 : starEach [.Name x p1] X.env = (false, eval (.Name x p1) X.env) :: starEach [] X.env := by rfl) (hpl : (backTo pos (starEach [.Name x p1] X.env)).any (·.1) = false := by rfl) :
    PE X (.Call (.Name "isinstance" p) [e, .Name x p1] [] pos) (tCB (rIsEr X.K) (tCons te (tCons (tC (.ref (He.ga X.K x))) tNil))) :=
  pe_callB call_isEr hi (T.fr "isinstance" (mem_at 1 rfl)) (by decide +kernel) (pa_cons ha (pa_cons (pe_glob (v := .ref (He.ga X.K x)) hg (T.er x hx).1 rfl hdb) pa_nil he2) he) (by decide) (by decide) he hpl
end
end K00
set_option Elab.async false
set_option linter.all false
set_option maxRecDepth 100000
set_option maxHeartbeats 4000000
namespace K00
open PySem PySem.Spec PyProof.Rows L2 Er
def spMade (K : PySem.W.Frag) : Sp := fun vs H Q _ => ∃ v : V, vs = [v] ∧ ∀ (H' : Hp) (p : Addr) (es : List Addr), Same H H' → H p = none → H' p = some (.lst (es.map V.ref)) → Errs K H' es errs v → Q (.ref p) H'
def spHalf (K : PySem.W.Frag) (ns : List Str) : Sp := fun vs H Q _ => ∃ (e d : Addr) (x : Str) (v : V), vs = [.ref e] ∧ x ∈ alls ∧ ErrAt H e (He.ga K x) d v ∧ ∀ (H' : Hp) (p : Addr), Same H H' → H p = none → H' p = some (.lst (ns.map fun y => V.bl (decide (x = y)))) → Q (.ref p) H'
section
variable {P : Program} {w : World} {K : PySem.W.Frag} {mg : Str → Option Value} {base : Heap} {f : Addr} {fd : FuncData}
theorem sc_init : FnScope ["self", "value"] ["self", "value"] (defScope sInit) := ⟨rfl, rfl, rfl, by decide +kernel, rfl, by decide +kernel, by decide +kernel⟩
theorem sc_all_made : FnScope ["thing", "found"] ["thing"] (defScope s_all_made) := ⟨rfl, rfl, rfl, by decide +kernel, rfl, by decide +kernel, by decide +kernel⟩
theorem ok_all_made (T : Tx K mg) (F : FunD K "_law_all_made" "_law_all_made" (defArgs s_all_made) (defBody s_all_made) (defScope s_all_made) [] [] f fd) {fdI : FuncData} (GI : FnOk P w K mg base CX0 1 (fI K) fdI ["self", "value"] (spInit K)) (bI : Binds K fdI ["self", "value"] []) :
    FnOk P w K mg base CX0 3 f fd ["thing"] (spMade K) := by
  refine F.ok sc_all_made (fun vs H Q E h => ?_) (fun cdv A outer s H vs Q E hr h => ?_)
  · obtain ⟨v, rfl, _⟩ := h
    rfl
  · obtain ⟨v, rfl, k⟩ := h
    have hr1 := hr
    have ers : ∀ x ∈ alls, ErC K (He.ga K x) (fI K) := fun x hx => (T.er x hx).2
    refine ⟨_, (pss_cons (ps_set (i := 1) sc_all_made.nd rfl (Or.inl rfl) (pe_lst pa_nil))
      (pss_cons (ps_expr (pe_bm PySem.F.plainAttrs_list PySem.F.slot_list_extend PySem.F.type_list_extend mt_extend (pv 1) (pa_cons (pe_lst (pa_cons (pe_mkE T GI bI hr1 (mem_at 1 rfl) (by rfl) (pa_cons (pv 0) pa_nil)) (pa_cons (pe_mkE T GI bI hr1 (mem_at 2 rfl) (by rfl) (pa_cons (pv 0) pa_nil)) (pa_cons (pe_mkE T GI bI hr1 (mem_at 3 rfl) (by rfl) (pa_cons (pv 0) pa_nil)) (pa_cons (pe_mkE T GI bI hr1 (mem_at 4 rfl) (by rfl) (pa_cons (pv 0) pa_nil)) (pa_cons (pe_mkE T GI bI hr1 (mem_at 5 rfl) (by rfl) (pa_cons (pv 0) pa_nil)) pa_nil)))))) pa_nil)))
      (pss_cons (ps_expr (pe_bm PySem.F.plainAttrs_list PySem.F.slot_list_extend PySem.F.type_list_extend mt_extend (pv 1) (pa_cons (pe_lst (pa_cons (pe_mkE T GI bI hr1 (mem_at 6 rfl) (by rfl) (pa_cons (pv 0) pa_nil)) (pa_cons (pe_mkE T GI bI hr1 (mem_at 7 rfl) (by rfl) (pa_cons (pv 0) pa_nil)) (pa_cons (pe_mkE T GI bI hr1 (mem_at 8 rfl) (by rfl) (pa_cons (pv 0) pa_nil)) (pa_cons (pe_mkE T GI bI hr1 (mem_at 9 rfl) (by rfl) (pa_cons (pv 0) pa_nil)) (pa_cons (pe_mkE T GI bI hr1 (mem_at 10 rfl) (by rfl) (pa_cons (pv 0) pa_nil)) (pa_cons (pe_mkE T GI bI hr1 (mem_at 11 rfl) (by rfl) (pa_cons (pv 0) pa_nil)) pa_nil))))))) pa_nil)))
      (pss_cons (ps_expr (pe_bm PySem.F.plainAttrs_list PySem.F.slot_list_extend PySem.F.type_list_extend mt_extend (pv 1) (pa_cons (pe_lst (pa_cons (pe_mkE T GI bI hr1 (mem_at 12 rfl) (by rfl) (pa_cons (pv 0) pa_nil)) (pa_cons (pe_mkE T GI bI hr1 (mem_at 13 rfl) (by rfl) (pa_cons (pv 0) pa_nil)) (pa_cons (pe_mkE T GI bI hr1 (mem_at 14 rfl) (by rfl) (pa_cons (pv 0) pa_nil)) (pa_cons (pe_mkE T GI bI hr1 (mem_at 15 rfl) (by rfl) (pa_cons (pv 0) pa_nil)) (pa_cons (pe_mkE T GI bI hr1 (mem_at 16 rfl) (by rfl) (pa_cons (pv 0) pa_nil)) pa_nil)))))) pa_nil)))
      (pss_cons (ps_expr (pe_bm PySem.F.plainAttrs_list PySem.F.slot_list_extend PySem.F.type_list_extend mt_extend (pv 1) (pa_cons (pe_lst (pa_cons (pe_mkE T GI bI hr1 (mem_at 17 rfl) (by rfl) (pa_cons (pv 0) pa_nil)) (pa_cons (pe_mkE T GI bI hr1 (mem_at 18 rfl) (by rfl) (pa_cons (pv 0) pa_nil)) (pa_cons (pe_mkE T GI bI hr1 (mem_at 19 rfl) (by rfl) (pa_cons (pv 0) pa_nil)) (pa_cons (pe_mkE T GI bI hr1 (mem_at 20 rfl) (by rfl) (pa_cons (pv 0) pa_nil)) (pa_cons (pe_mkE T GI bI hr1 (mem_at 21 rfl) (by rfl) (pa_cons (pv 0) pa_nil)) pa_nil)))))) pa_nil)))
      (pss_cons (ps_expr (pe_bm PySem.F.plainAttrs_list PySem.F.slot_list_extend PySem.F.type_list_extend mt_extend (pv 1) (pa_cons (pe_lst (pa_cons (pe_mkE T GI bI hr1 (mem_at 22 rfl) (by rfl) (pa_cons (pv 0) pa_nil)) (pa_cons (pe_mkE T GI bI hr1 (mem_at 23 rfl) (by rfl) (pa_cons (pv 0) pa_nil)) (pa_cons (pe_mkE T GI bI hr1 (mem_at 24 rfl) (by rfl) (pa_cons (pv 0) pa_nil)) (pa_cons (pe_mkE T GI bI hr1 (mem_at 25 rfl) (by rfl) (pa_cons (pv 0) pa_nil)) (pa_cons (pe_mkE T GI bI hr1 (mem_at 26 rfl) (by rfl) (pa_cons (pv 0) pa_nil)) pa_nil)))))) pa_nil)))
      (pss_cons (ps_expr (pe_bm PySem.F.plainAttrs_list PySem.F.slot_list_extend PySem.F.type_list_extend mt_extend (pv 1) (pa_cons (pe_lst (pa_cons (pe_mkE T GI bI hr1 (mem_at 27 rfl) (by rfl) (pa_cons (pv 0) pa_nil)) (pa_cons (pe_mkE T GI bI hr1 (mem_at 28 rfl) (by rfl) (pa_cons (pv 0) pa_nil)) (pa_cons (pe_mkE T GI bI hr1 (mem_at 29 rfl) (by rfl) (pa_cons (pv 0) pa_nil)) (pa_cons (pe_mkE T GI bI hr1 (mem_at 30 rfl) (by rfl) (pa_cons (pv 0) pa_nil)) (pa_cons (pe_mkE T GI bI hr1 (mem_at 31 rfl) (by rfl) (pa_cons (pv 0) pa_nil)) pa_nil)))))) pa_nil)))
      (pss_cons (ps_expr (pe_bm PySem.F.plainAttrs_list PySem.F.slot_list_extend PySem.F.type_list_extend mt_extend (pv 1) (pa_cons (pe_lst (pa_cons (pe_mkE T GI bI hr1 (mem_at 32 rfl) (by rfl) (pa_cons (pv 0) pa_nil)) (pa_cons (pe_mkE T GI bI hr1 (mem_at 33 rfl) (by rfl) (pa_cons (pv 0) pa_nil)) (pa_cons (pe_mkE T GI bI hr1 (mem_at 34 rfl) (by rfl) (pa_cons (pv 0) pa_nil)) (pa_cons (pe_mkE T GI bI hr1 (mem_at 35 rfl) (by rfl) (pa_cons (pv 0) pa_nil)) (pa_cons (pe_mkE T GI bI hr1 (mem_at 36 rfl) (by rfl) (pa_cons (pv 0) pa_nil)) pa_nil)))))) pa_nil)))
      (pss_cons (ps_expr (pe_bm PySem.F.plainAttrs_list PySem.F.slot_list_extend PySem.F.type_list_extend mt_extend (pv 1) (pa_cons (pe_lst (pa_cons (pe_mkE T GI bI hr1 (mem_at 37 rfl) (by rfl) (pa_cons (pv 0) pa_nil)) (pa_cons (pe_mkE T GI bI hr1 (mem_at 38 rfl) (by rfl) (pa_cons (pv 0) pa_nil)) (pa_cons (pe_mkE T GI bI hr1 (mem_at 39 rfl) (by rfl) (pa_cons (pv 0) pa_nil)) (pa_cons (pe_mkE T GI bI hr1 (mem_at 40 rfl) (by rfl) (pa_cons (pv 0) pa_nil)) (pa_cons (pe_mkE T GI bI hr1 (mem_at 41 rfl) (by rfl) (pa_cons (pv 0) pa_nil)) pa_nil)))))) pa_nil)))
      (pss_cons (ps_expr (pe_bm PySem.F.plainAttrs_list PySem.F.slot_list_extend PySem.F.type_list_extend mt_extend (pv 1) (pa_cons (pe_lst (pa_cons (pe_mkE T GI bI hr1 (mem_at 42 rfl) (by rfl) (pa_cons (pv 0) pa_nil)) (pa_cons (pe_mkE T GI bI hr1 (mem_at 43 rfl) (by rfl) (pa_cons (pv 0) pa_nil)) (pa_cons (pe_mkE T GI bI hr1 (mem_at 44 rfl) (by rfl) (pa_cons (pv 0) pa_nil)) (pa_cons (pe_mkE T GI bI hr1 (mem_at 45 rfl) (by rfl) (pa_cons (pv 0) pa_nil)) (pa_cons (pe_mkE T GI bI hr1 (mem_at 46 rfl) (by rfl) (pa_cons (pv 0) pa_nil)) pa_nil)))))) pa_nil)))
      (pss_cons (ps_expr (pe_bm PySem.F.plainAttrs_list PySem.F.slot_list_extend PySem.F.type_list_extend mt_extend (pv 1) (pa_cons (pe_lst (pa_cons (pe_mkE T GI bI hr1 (mem_at 47 rfl) (by rfl) (pa_cons (pv 0) pa_nil)) (pa_cons (pe_mkE T GI bI hr1 (mem_at 48 rfl) (by rfl) (pa_cons (pv 0) pa_nil)) (pa_cons (pe_mkE T GI bI hr1 (mem_at 49 rfl) (by rfl) (pa_cons (pv 0) pa_nil)) (pa_cons (pe_mkE T GI bI hr1 (mem_at 50 rfl) (by rfl) (pa_cons (pv 0) pa_nil)) pa_nil))))) pa_nil)))
      (pss_cons (ps_expr (pe_bm PySem.F.plainAttrs_list PySem.F.slot_list_extend PySem.F.type_list_extend mt_extend (pv 1) (pa_cons (pe_lst (pa_cons (pe_mkE T GI bI hr1 (mem_at 51 rfl) (by rfl) (pa_cons (pv 0) pa_nil)) pa_nil)) pa_nil)))
      (pss_one (ps_ret (pv 1))))))))))))))), ?_⟩
    refine i_set (i_lst (i_nil ⟨Nat.zero_le _, fun l h00 => ?_⟩))
    have hl : (upd H l (.lst [])) l = some (.lst (([] : List Addr).map V.ref)) := upd_same
    have he : Errs K (upd H l (.lst [])) [] [] v := .nil
    have s0 : Same H (upd H l (.lst [])) := same_new h00
    refine i_do (ext_made (fI := fI K) (H0 := H) ["BadYard", "BadSpot", "NoVessel", "BadMoment", "BadStep"] (fun x hx => ers x ((by decide +kernel : ∀ x ∈ (["BadYard", "BadSpot", "NoVessel", "BadMoment", "BadStep"] : List Str), x ∈ alls) x hx)) rfl rfl hl he (by decide) h00 s0 ?_)
    clear hl he s0
    rintro es _ hl he s0
    refine i_do (ext_made (fI := fI K) (H0 := H) ["Full", "BadSample", "Told", "NoSample", "NoStep", "NoEnd"] (fun x hx => ers x ((by decide +kernel : ∀ x ∈ (["Full", "BadSample", "Told", "NoSample", "NoStep", "NoEnd"] : List Str), x ∈ alls) x hx)) rfl rfl hl he (by decide) h00 s0 ?_)
    clear hl he s0
    rintro es _ hl he s0
    refine i_do (ext_made (fI := fI K) (H0 := H) ["NoGlass", "Fixed", "OtherVessels", "Unlike", "BadAmount"] (fun x hx => ers x ((by decide +kernel : ∀ x ∈ (["NoGlass", "Fixed", "OtherVessels", "Unlike", "BadAmount"] : List Str), x ∈ alls) x hx)) rfl rfl hl he (by decide) h00 s0 ?_)
    clear hl he s0
    rintro es _ hl he s0
    refine i_do (ext_made (fI := fI K) (H0 := H) ["NotParted", "BadRow", "NotMixing", "TooMany", "BadCut"] (fun x hx => ers x ((by decide +kernel : ∀ x ∈ (["NotParted", "BadRow", "NotMixing", "TooMany", "BadCut"] : List Str), x ∈ alls) x hx)) rfl rfl hl he (by decide) h00 s0 ?_)
    clear hl he s0
    rintro es _ hl he s0
    refine i_do (ext_made (fI := fI K) (H0 := H) ["BadLot", "NoMixing", "BadDyes", "BadWeights", "BadHeights"] (fun x hx => ers x ((by decide +kernel : ∀ x ∈ (["BadLot", "NoMixing", "BadDyes", "BadWeights", "BadHeights"] : List Str), x ∈ alls) x hx)) rfl rfl hl he (by decide) h00 s0 ?_)
    clear hl he s0
    rintro es _ hl he s0
    refine i_do (ext_made (fI := fI K) (H0 := H) ["BadSpots", "BadNumbers", "OtherSteps", "BadMarks", "NoSource"] (fun x hx => ers x ((by decide +kernel : ∀ x ∈ (["BadSpots", "BadNumbers", "OtherSteps", "BadMarks", "NoSource"] : List Str), x ∈ alls) x hx)) rfl rfl hl he (by decide) h00 s0 ?_)
    clear hl he s0
    rintro es _ hl he s0
    refine i_do (ext_made (fI := fI K) (H0 := H) ["Great", "BadMost", "BadPrices", "BadQuestion", "BadAnswers"] (fun x hx => ers x ((by decide +kernel : ∀ x ∈ (["Great", "BadMost", "BadPrices", "BadQuestion", "BadAnswers"] : List Str), x ∈ alls) x hx)) rfl rfl hl he (by decide) h00 s0 ?_)
    clear hl he s0
    rintro es _ hl he s0
    refine i_do (ext_made (fI := fI K) (H0 := H) ["BadQuestions", "BadBlock", "BadMany", "BadOffers", "BadWishes"] (fun x hx => ers x ((by decide +kernel : ∀ x ∈ (["BadQuestions", "BadBlock", "BadMany", "BadOffers", "BadWishes"] : List Str), x ∈ alls) x hx)) rfl rfl hl he (by decide) h00 s0 ?_)
    clear hl he s0
    rintro es _ hl he s0
    refine i_do (ext_made (fI := fI K) (H0 := H) ["BadChoice", "BadVessels", "Same", "TooLittle", "Torn"] (fun x hx => ers x ((by decide +kernel : ∀ x ∈ (["BadChoice", "BadVessels", "Same", "TooLittle", "Torn"] : List Str), x ∈ alls) x hx)) rfl rfl hl he (by decide) h00 s0 ?_)
    clear hl he s0
    rintro es _ hl he s0
    refine i_do (ext_made (fI := fI K) (H0 := H) ["NothingToUndo", "NothingToRedo", "NoTrial", "BadJournal"] (fun x hx => ers x ((by decide +kernel : ∀ x ∈ (["NothingToUndo", "NothingToRedo", "NoTrial", "BadJournal"] : List Str), x ∈ alls) x hx)) rfl rfl hl he (by decide) h00 s0 ?_)
    clear hl he s0
    rintro es _ hl he s0
    refine i_do (ext_made (fI := fI K) (H0 := H) ["BadLine"] (fun x hx => ers x ((by decide +kernel : ∀ x ∈ (["BadLine"] : List Str), x ∈ alls) x hx)) rfl rfl hl he (by decide) h00 s0 ?_)
    clear hl he s0
    rintro es _ hl he s0
    exact ⟨.ref l, rfl, k _ l es s0 h00 hl he⟩
theorem sc_first_half : FnScope ["error", "found"] ["error"] (defScope s_first_half) := ⟨rfl, rfl, rfl, by decide +kernel, rfl, by decide +kernel, by decide +kernel⟩
theorem ok_first_half (T : Tx K mg) (F : FunD K "_law_first_half" "_law_first_half" (defArgs s_first_half) (defBody s_first_half) (defScope s_first_half) [] [] f fd) : FnOk P w K mg base CX0 1 f fd ["error"] (spHalf K n1) := by
  refine F.ok sc_first_half (fun vs H Q E h => ?_) (fun cdv A outer s H vs Q E hr h => ?_)
  · obtain ⟨e, d, x, v, rfl, _⟩ := h
    rfl
  · obtain ⟨e, d, x, v, rfl, hx, hE, k⟩ := h
    have lenz : ∀ {l : List Str}, (l.map fun y => V.bl (decide (x = y))).length = l.length := List.length_map _
    refine ⟨_, (pss_cons (ps_set (i := 1) sc_first_half.nd rfl (Or.inl rfl) (pe_lst pa_nil))
      (pss_cons (ps_expr (pe_bm PySem.F.plainAttrs_list PySem.F.slot_list_extend PySem.F.type_list_extend mt_extend (pv 1) (pa_cons (pe_lst (pa_cons (pe_isE T (by rfl) (mem_at 1 rfl) (by rfl) (pv 0)) (pa_cons (pe_isE T (by rfl) (mem_at 2 rfl) (by rfl) (pv 0)) (pa_cons (pe_isE T (by rfl) (mem_at 3 rfl) (by rfl) (pv 0)) pa_nil)))) pa_nil)))
      (pss_cons (ps_expr (pe_bm PySem.F.plainAttrs_list PySem.F.slot_list_extend PySem.F.type_list_extend mt_extend (pv 1) (pa_cons (pe_lst (pa_cons (pe_isE T (by rfl) (mem_at 4 rfl) (by rfl) (pv 0)) (pa_cons (pe_isE T (by rfl) (mem_at 5 rfl) (by rfl) (pv 0)) (pa_cons (pe_isE T (by rfl) (mem_at 6 rfl) (by rfl) (pv 0)) pa_nil)))) pa_nil)))
      (pss_cons (ps_expr (pe_bm PySem.F.plainAttrs_list PySem.F.slot_list_extend PySem.F.type_list_extend mt_extend (pv 1) (pa_cons (pe_lst (pa_cons (pe_isE T (by rfl) (mem_at 7 rfl) (by rfl) (pv 0)) (pa_cons (pe_isE T (by rfl) (mem_at 8 rfl) (by rfl) (pv 0)) (pa_cons (pe_isE T (by rfl) (mem_at 9 rfl) (by rfl) (pv 0)) pa_nil)))) pa_nil)))
      (pss_cons (ps_expr (pe_bm PySem.F.plainAttrs_list PySem.F.slot_list_extend PySem.F.type_list_extend mt_extend (pv 1) (pa_cons (pe_lst (pa_cons (pe_isE T (by rfl) (mem_at 10 rfl) (by rfl) (pv 0)) (pa_cons (pe_isE T (by rfl) (mem_at 11 rfl) (by rfl) (pv 0)) (pa_cons (pe_isE T (by rfl) (mem_at 12 rfl) (by rfl) (pv 0)) pa_nil)))) pa_nil)))
      (pss_cons (ps_expr (pe_bm PySem.F.plainAttrs_list PySem.F.slot_list_extend PySem.F.type_list_extend mt_extend (pv 1) (pa_cons (pe_lst (pa_cons (pe_isE T (by rfl) (mem_at 13 rfl) (by rfl) (pv 0)) (pa_cons (pe_isE T (by rfl) (mem_at 14 rfl) (by rfl) (pv 0)) (pa_cons (pe_isE T (by rfl) (mem_at 15 rfl) (by rfl) (pv 0)) pa_nil)))) pa_nil)))
      (pss_cons (ps_expr (pe_bm PySem.F.plainAttrs_list PySem.F.slot_list_extend PySem.F.type_list_extend mt_extend (pv 1) (pa_cons (pe_lst (pa_cons (pe_isE T (by rfl) (mem_at 16 rfl) (by rfl) (pv 0)) (pa_cons (pe_isE T (by rfl) (mem_at 17 rfl) (by rfl) (pv 0)) (pa_cons (pe_isE T (by rfl) (mem_at 18 rfl) (by rfl) (pv 0)) pa_nil)))) pa_nil)))
      (pss_cons (ps_expr (pe_bm PySem.F.plainAttrs_list PySem.F.slot_list_extend PySem.F.type_list_extend mt_extend (pv 1) (pa_cons (pe_lst (pa_cons (pe_isE T (by rfl) (mem_at 19 rfl) (by rfl) (pv 0)) (pa_cons (pe_isE T (by rfl) (mem_at 20 rfl) (by rfl) (pv 0)) (pa_cons (pe_isE T (by rfl) (mem_at 21 rfl) (by rfl) (pv 0)) pa_nil)))) pa_nil)))
      (pss_cons (ps_expr (pe_bm PySem.F.plainAttrs_list PySem.F.slot_list_extend PySem.F.type_list_extend mt_extend (pv 1) (pa_cons (pe_lst (pa_cons (pe_isE T (by rfl) (mem_at 22 rfl) (by rfl) (pv 0)) (pa_cons (pe_isE T (by rfl) (mem_at 23 rfl) (by rfl) (pv 0)) (pa_cons (pe_isE T (by rfl) (mem_at 24 rfl) (by rfl) (pv 0)) pa_nil)))) pa_nil)))
      (pss_cons (ps_expr (pe_bm PySem.F.plainAttrs_list PySem.F.slot_list_extend PySem.F.type_list_extend mt_extend (pv 1) (pa_cons (pe_lst (pa_cons (pe_isE T (by rfl) (mem_at 25 rfl) (by rfl) (pv 0)) (pa_cons (pe_isE T (by rfl) (mem_at 26 rfl) (by rfl) (pv 0)) pa_nil))) pa_nil)))
      (pss_one (ps_ret (pv 1))))))))))))), ?_⟩
    refine i_set (i_lst (i_nil ⟨Nat.zero_le _, fun l h00 => ?_⟩))
    have hl : (upd H l (.lst [])) l = some (.lst []) := upd_same
    have s0 : Same H (upd H l (.lst [])) := same_new h00
    replace hE := hE.same s0
    refine i_do (ext_is (H0 := H) (g := fun y => decide (x = y)) ["BadYard", "BadSpot", "NoVessel"] (T.er x hx).2 hE rfl rfl (fun y hy => T.kit x hx y ((by decide +kernel : ∀ x ∈ (["BadYard", "BadSpot", "NoVessel"] : List Str), x ∈ errs) y hy)) hl (by simp) h00 s0 ?_)
    clear hl hE s0
    rintro _ hl hE s0
    refine i_do (ext_is (H0 := H) (g := fun y => decide (x = y)) ["BadMoment", "BadStep", "Full"] (T.er x hx).2 hE rfl rfl (fun y hy => T.kit x hx y ((by decide +kernel : ∀ x ∈ (["BadMoment", "BadStep", "Full"] : List Str), x ∈ errs) y hy)) hl (by simp) h00 s0 ?_)
    clear hl hE s0
    rintro _ hl hE s0
    refine i_do (ext_is (H0 := H) (g := fun y => decide (x = y)) ["BadSample", "Told", "NoSample"] (T.er x hx).2 hE rfl rfl (fun y hy => T.kit x hx y ((by decide +kernel : ∀ x ∈ (["BadSample", "Told", "NoSample"] : List Str), x ∈ errs) y hy)) hl (by simp) h00 s0 ?_)
    clear hl hE s0
    rintro _ hl hE s0
    refine i_do (ext_is (H0 := H) (g := fun y => decide (x = y)) ["NoStep", "NoEnd", "NoGlass"] (T.er x hx).2 hE rfl rfl (fun y hy => T.kit x hx y ((by decide +kernel : ∀ x ∈ (["NoStep", "NoEnd", "NoGlass"] : List Str), x ∈ errs) y hy)) hl (by simp) h00 s0 ?_)
    clear hl hE s0
    rintro _ hl hE s0
    refine i_do (ext_is (H0 := H) (g := fun y => decide (x = y)) ["Fixed", "OtherVessels", "Unlike"] (T.er x hx).2 hE rfl rfl (fun y hy => T.kit x hx y ((by decide +kernel : ∀ x ∈ (["Fixed", "OtherVessels", "Unlike"] : List Str), x ∈ errs) y hy)) hl (by simp) h00 s0 ?_)
    clear hl hE s0
    rintro _ hl hE s0
    refine i_do (ext_is (H0 := H) (g := fun y => decide (x = y)) ["BadAmount", "NotParted", "BadRow"] (T.er x hx).2 hE rfl rfl (fun y hy => T.kit x hx y ((by decide +kernel : ∀ x ∈ (["BadAmount", "NotParted", "BadRow"] : List Str), x ∈ errs) y hy)) hl (by simp) h00 s0 ?_)
    clear hl hE s0
    rintro _ hl hE s0
    refine i_do (ext_is (H0 := H) (g := fun y => decide (x = y)) ["NotMixing", "TooMany", "BadCut"] (T.er x hx).2 hE rfl rfl (fun y hy => T.kit x hx y ((by decide +kernel : ∀ x ∈ (["NotMixing", "TooMany", "BadCut"] : List Str), x ∈ errs) y hy)) hl (by simp) h00 s0 ?_)
    clear hl hE s0
    rintro _ hl hE s0
    refine i_do (ext_is (H0 := H) (g := fun y => decide (x = y)) ["BadLot", "NoMixing", "BadDyes"] (T.er x hx).2 hE rfl rfl (fun y hy => T.kit x hx y ((by decide +kernel : ∀ x ∈ (["BadLot", "NoMixing", "BadDyes"] : List Str), x ∈ errs) y hy)) hl (by simp) h00 s0 ?_)
    clear hl hE s0
    rintro _ hl hE s0
    refine i_do (ext_is (H0 := H) (g := fun y => decide (x = y)) ["BadWeights", "BadHeights"] (T.er x hx).2 hE rfl rfl (fun y hy => T.kit x hx y ((by decide +kernel : ∀ x ∈ (["BadWeights", "BadHeights"] : List Str), x ∈ errs) y hy)) hl (by simp) h00 s0 ?_)
    clear hl hE s0
    rintro _ hl hE s0
    exact ⟨.ref l, rfl, k _ l s0 h00 hl⟩
theorem sc_second_half : FnScope ["error", "found"] ["error"] (defScope s_second_half) := ⟨rfl, rfl, rfl, by decide +kernel, rfl, by decide +kernel, by decide +kernel⟩
theorem ok_second_half (T : Tx K mg) (F : FunD K "_law_second_half" "_law_second_half" (defArgs s_second_half) (defBody s_second_half) (defScope s_second_half) [] [] f fd) : FnOk P w K mg base CX0 1 f fd ["error"] (spHalf K n2) := by
  refine F.ok sc_second_half (fun vs H Q E h => ?_) (fun cdv A outer s H vs Q E hr h => ?_)
  · obtain ⟨e, d, x, v, rfl, _⟩ := h
    rfl
  · obtain ⟨e, d, x, v, rfl, hx, hE, k⟩ := h
    have lenz : ∀ {l : List Str}, (l.map fun y => V.bl (decide (x = y))).length = l.length := List.length_map _
    refine ⟨_, (pss_cons (ps_set (i := 1) sc_second_half.nd rfl (Or.inl rfl) (pe_lst pa_nil))
      (pss_cons (ps_expr (pe_bm PySem.F.plainAttrs_list PySem.F.slot_list_extend PySem.F.type_list_extend mt_extend (pv 1) (pa_cons (pe_lst (pa_cons (pe_isE T (by rfl) (mem_at 27 rfl) (by rfl) (pv 0)) (pa_cons (pe_isE T (by rfl) (mem_at 28 rfl) (by rfl) (pv 0)) (pa_cons (pe_isE T (by rfl) (mem_at 29 rfl) (by rfl) (pv 0)) pa_nil)))) pa_nil)))
      (pss_cons (ps_expr (pe_bm PySem.F.plainAttrs_list PySem.F.slot_list_extend PySem.F.type_list_extend mt_extend (pv 1) (pa_cons (pe_lst (pa_cons (pe_isE T (by rfl) (mem_at 30 rfl) (by rfl) (pv 0)) (pa_cons (pe_isE T (by rfl) (mem_at 31 rfl) (by rfl) (pv 0)) (pa_cons (pe_isE T (by rfl) (mem_at 32 rfl) (by rfl) (pv 0)) pa_nil)))) pa_nil)))
      (pss_cons (ps_expr (pe_bm PySem.F.plainAttrs_list PySem.F.slot_list_extend PySem.F.type_list_extend mt_extend (pv 1) (pa_cons (pe_lst (pa_cons (pe_isE T (by rfl) (mem_at 33 rfl) (by rfl) (pv 0)) (pa_cons (pe_isE T (by rfl) (mem_at 34 rfl) (by rfl) (pv 0)) (pa_cons (pe_isE T (by rfl) (mem_at 35 rfl) (by rfl) (pv 0)) pa_nil)))) pa_nil)))
      (pss_cons (ps_expr (pe_bm PySem.F.plainAttrs_list PySem.F.slot_list_extend PySem.F.type_list_extend mt_extend (pv 1) (pa_cons (pe_lst (pa_cons (pe_isE T (by rfl) (mem_at 36 rfl) (by rfl) (pv 0)) (pa_cons (pe_isE T (by rfl) (mem_at 37 rfl) (by rfl) (pv 0)) (pa_cons (pe_isE T (by rfl) (mem_at 38 rfl) (by rfl) (pv 0)) pa_nil)))) pa_nil)))
      (pss_cons (ps_expr (pe_bm PySem.F.plainAttrs_list PySem.F.slot_list_extend PySem.F.type_list_extend mt_extend (pv 1) (pa_cons (pe_lst (pa_cons (pe_isE T (by rfl) (mem_at 39 rfl) (by rfl) (pv 0)) (pa_cons (pe_isE T (by rfl) (mem_at 40 rfl) (by rfl) (pv 0)) (pa_cons (pe_isE T (by rfl) (mem_at 41 rfl) (by rfl) (pv 0)) pa_nil)))) pa_nil)))
      (pss_cons (ps_expr (pe_bm PySem.F.plainAttrs_list PySem.F.slot_list_extend PySem.F.type_list_extend mt_extend (pv 1) (pa_cons (pe_lst (pa_cons (pe_isE T (by rfl) (mem_at 42 rfl) (by rfl) (pv 0)) (pa_cons (pe_isE T (by rfl) (mem_at 43 rfl) (by rfl) (pv 0)) (pa_cons (pe_isE T (by rfl) (mem_at 44 rfl) (by rfl) (pv 0)) pa_nil)))) pa_nil)))
      (pss_cons (ps_expr (pe_bm PySem.F.plainAttrs_list PySem.F.slot_list_extend PySem.F.type_list_extend mt_extend (pv 1) (pa_cons (pe_lst (pa_cons (pe_isE T (by rfl) (mem_at 45 rfl) (by rfl) (pv 0)) (pa_cons (pe_isE T (by rfl) (mem_at 46 rfl) (by rfl) (pv 0)) (pa_cons (pe_isE T (by rfl) (mem_at 47 rfl) (by rfl) (pv 0)) pa_nil)))) pa_nil)))
      (pss_cons (ps_expr (pe_bm PySem.F.plainAttrs_list PySem.F.slot_list_extend PySem.F.type_list_extend mt_extend (pv 1) (pa_cons (pe_lst (pa_cons (pe_isE T (by rfl) (mem_at 48 rfl) (by rfl) (pv 0)) (pa_cons (pe_isE T (by rfl) (mem_at 49 rfl) (by rfl) (pv 0)) (pa_cons (pe_isE T (by rfl) (mem_at 50 rfl) (by rfl) (pv 0)) pa_nil)))) pa_nil)))
      (pss_cons (ps_expr (pe_bm PySem.F.plainAttrs_list PySem.F.slot_list_extend PySem.F.type_list_extend mt_extend (pv 1) (pa_cons (pe_lst (pa_cons (pe_isE T (by rfl) (mem_at 51 rfl) (by rfl) (pv 0)) pa_nil)) pa_nil)))
      (pss_one (ps_ret (pv 1))))))))))))), ?_⟩
    refine i_set (i_lst (i_nil ⟨Nat.zero_le _, fun l h00 => ?_⟩))
    have hl : (upd H l (.lst [])) l = some (.lst []) := upd_same
    have s0 : Same H (upd H l (.lst [])) := same_new h00
    replace hE := hE.same s0
    refine i_do (ext_is (H0 := H) (g := fun y => decide (x = y)) ["BadSpots", "BadNumbers", "OtherSteps"] (T.er x hx).2 hE rfl rfl (fun y hy => T.kit x hx y ((by decide +kernel : ∀ x ∈ (["BadSpots", "BadNumbers", "OtherSteps"] : List Str), x ∈ errs) y hy)) hl (by simp) h00 s0 ?_)
    clear hl hE s0
    rintro _ hl hE s0
    refine i_do (ext_is (H0 := H) (g := fun y => decide (x = y)) ["BadMarks", "NoSource", "Great"] (T.er x hx).2 hE rfl rfl (fun y hy => T.kit x hx y ((by decide +kernel : ∀ x ∈ (["BadMarks", "NoSource", "Great"] : List Str), x ∈ errs) y hy)) hl (by simp) h00 s0 ?_)
    clear hl hE s0
    rintro _ hl hE s0
    refine i_do (ext_is (H0 := H) (g := fun y => decide (x = y)) ["BadMost", "BadPrices", "BadQuestion"] (T.er x hx).2 hE rfl rfl (fun y hy => T.kit x hx y ((by decide +kernel : ∀ x ∈ (["BadMost", "BadPrices", "BadQuestion"] : List Str), x ∈ errs) y hy)) hl (by simp) h00 s0 ?_)
    clear hl hE s0
    rintro _ hl hE s0
    refine i_do (ext_is (H0 := H) (g := fun y => decide (x = y)) ["BadAnswers", "BadQuestions", "BadBlock"] (T.er x hx).2 hE rfl rfl (fun y hy => T.kit x hx y ((by decide +kernel : ∀ x ∈ (["BadAnswers", "BadQuestions", "BadBlock"] : List Str), x ∈ errs) y hy)) hl (by simp) h00 s0 ?_)
    clear hl hE s0
    rintro _ hl hE s0
    refine i_do (ext_is (H0 := H) (g := fun y => decide (x = y)) ["BadMany", "BadOffers", "BadWishes"] (T.er x hx).2 hE rfl rfl (fun y hy => T.kit x hx y ((by decide +kernel : ∀ x ∈ (["BadMany", "BadOffers", "BadWishes"] : List Str), x ∈ errs) y hy)) hl (by simp) h00 s0 ?_)
    clear hl hE s0
    rintro _ hl hE s0
    refine i_do (ext_is (H0 := H) (g := fun y => decide (x = y)) ["BadChoice", "BadVessels", "Same"] (T.er x hx).2 hE rfl rfl (fun y hy => T.kit x hx y ((by decide +kernel : ∀ x ∈ (["BadChoice", "BadVessels", "Same"] : List Str), x ∈ errs) y hy)) hl (by simp) h00 s0 ?_)
    clear hl hE s0
    rintro _ hl hE s0
    refine i_do (ext_is (H0 := H) (g := fun y => decide (x = y)) ["TooLittle", "Torn", "NothingToUndo"] (T.er x hx).2 hE rfl rfl (fun y hy => T.kit x hx y ((by decide +kernel : ∀ x ∈ (["TooLittle", "Torn", "NothingToUndo"] : List Str), x ∈ errs) y hy)) hl (by simp) h00 s0 ?_)
    clear hl hE s0
    rintro _ hl hE s0
    refine i_do (ext_is (H0 := H) (g := fun y => decide (x = y)) ["NothingToRedo", "NoTrial", "BadJournal"] (T.er x hx).2 hE rfl rfl (fun y hy => T.kit x hx y ((by decide +kernel : ∀ x ∈ (["NothingToRedo", "NoTrial", "BadJournal"] : List Str), x ∈ errs) y hy)) hl (by simp) h00 s0 ?_)
    clear hl hE s0
    rintro _ hl hE s0
    refine i_do (ext_is (H0 := H) (g := fun y => decide (x = y)) ["BadLine"] (T.er x hx).2 hE rfl rfl (fun y hy => T.kit x hx y ((by decide +kernel : ∀ x ∈ (["BadLine"] : List Str), x ∈ errs) y hy)) hl (by simp) h00 s0 ?_)
    clear hl hE s0
    rintro _ hl hE s0
    exact ⟨.ref l, rfl, k _ l s0 h00 hl⟩
end
end K00
set_option Elab.async false
set_option linter.all false
set_option maxRecDepth 100000
set_option maxHeartbeats 4000000
namespace Er
open PySem PySem.Spec PyProof.Rows L2
def AllR (n : Nat) (R : PyData → Prop) (ds : List PyData) : Prop := ds.length = n ∧ ∀ d ∈ ds, R d
theorem evPs_nilA {K : PySem.W.Frag} {σ : L2.St} {p : Addr} {R : PyData → Prop} : EvPs K tNil σ p 0 (AllR 0 R) := evPs_nil ⟨rfl, fun _ h => nomatch h⟩
theorem evPs_consA {K : PySem.W.Frag} {σ : L2.St} {p : Addr} {c1 c2 : Int} {te : TE} {ta : TA} {R : PyData → Prop} {n : Nat} (h : EvP K te σ p c1 R) (t : EvPs K ta σ p c2 (AllR n R)) (h1 : 0 ≤ c1) (h2 : 0 ≤ c2) : EvPs K (tCons te ta) σ p (c1 + c2) (AllR (n + 1) R) := fun H m hp hn Q k =>
  evPs_cons h t h1 h2 H m hp hn Q fun vs es H' ⟨d, r, e, rd, l, rr⟩ => k vs es H' (by
    rw [e]
    refine ⟨by rw [List.length_cons, l], fun z hz => ?_⟩
    rcases List.mem_cons.mp hz with e | hz
    · rw [e]; exact rd
    · exact rr z hz)
theorem Pot.same {H H' : Hp} {p : Addr} {n : Int} (s : Same H H') (h : Pot H p n) : Pot H' p n := by
  obtain ⟨a, b, c, e, r⟩ := h
  exact ⟨a, b, c, s _ _ e, r⟩
theorem Fre.sh {K : PySem.W.Frag} {H H' : Hp} {p : Addr} {v : V} {d : PyData} (h : Fre K H H' p v d) : Sh K H' v d := (h [] fun q z => nomatch z).same fun b o e => (hid_some e).2
theorem dp_bools {K : PySem.W.Frag} {H : Hp} : ∀ bs : List Bool, DpAll K H (bs.map V.bl) (bs.map PyData.bool)
  | [] => .nil
  | b :: r => .cons (.bl b) (dp_bools r)
theorem canLay_bools : ∀ bs : List Bool, PyData.canLayAll0 (bs.map PyData.bool) = true
  | [] => rfl
  | b :: r => by
    show PyData.canLayAll0 (PyData.bool b :: r.map PyData.bool) = true
    simp only [PyData.canLayAll0, PyData.canLay0, Bool.true_and, canLay_bools r]
theorem depth_bools : ∀ bs : List Bool, PyData.depthAll (bs.map PyData.bool) ≤ 1
  | [] => by decide
  | b :: r => by
    have z := depth_bools r
    show PyData.depthAll (PyData.bool b :: r.map PyData.bool) ≤ 1
    simp only [PyData.depthAll, PyData.depth]
    omega
theorem shaped_bools (bs : List Bool) : SeqAt.shaped (.list (bs.map PyData.bool)) = true := by
  have h1 := canLay_bools bs
  have h2 := depth_bools bs
  refine Bool.and_eq_true_iff.mpr ⟨by simpa only [PyData.canLay0] using h1, decide_eq_true ?_⟩
  simp only [PyData.depth]
  omega
end Er
namespace K00
open PySem PySem.Spec PyProof.Rows L2 Er
def thingOf (d : PyData) : List PyData := [d, .tuple [d, .int 3], .list [d], .dict [(.str "a", .tuple [d])]]
def thingDs : List PyData := oddDs.flatMap thingOf
def showsB (d : PyData) : Bool := d.showable && (decide (d.depth ≤ 60) && decide (d.shown.length ≤ 16777216))
theorem shows_all : ∀ d ∈ thingDs, showsB d = true := by decide +kernel
theorem shows_of {d : PyData} (h : d ∈ thingDs) : Shows d := by
  have z := shows_all d h
  simp only [showsB, Bool.and_eq_true, decide_eq_true_eq] at z
  exact ⟨z.1, z.2.1, by rw [sizeLine_eq]; exact z.2.2⟩
theorem thing_in {d e : PyData} (h : d ∈ oddDs) (he : e ∈ thingOf d) : e ∈ thingDs := List.mem_flatMap.mpr ⟨d, h, he⟩
def spRight : Sp := fun vs H Q _ => ∃ p : Addr, vs = [.ref p] ∧ Pot H p 0 ∧ ∀ H' : Hp, Same (But H p) (But H' p) → Q (.bl true) H'
def marks (x : Str) : List Bool := errs.map fun y => decide (x = y)
theorem marks_at : ∀ i x, errs[i]? = some x → (List.range 51).map (fun j => decide (i = j)) = marks x := by
  have key : ∀ i ∈ List.range 51, (List.range 51).map (fun j => decide (i = j)) = (match errs[i]? with | some x => marks x | none => []) := by decide +kernel
  intro i x h
  have hi : i < 51 := by
    obtain ⟨h1, _⟩ := List.getElem?_eq_some_iff.mp h
    exact h1
  have z := key i (List.mem_range.mpr hi)
  rw [h] at z
  exact z
section
variable {P : Program} {w : World} {K : PySem.W.Frag} {mg : Str → Option Value} {base : Heap} {f : Addr} {fd : FuncData}
theorem sc_right : FnScope ["pot", "lap", "thing", "all_here", "at", "error", "marks_here", "bare", "its"] ["pot"] (defScope s_right) := ⟨rfl, rfl, rfl, by decide +kernel, rfl, by decide +kernel, by decide +kernel⟩
theorem ok_right (T : Tx K mg) (F : FunD K "_law_right" "_law_right" (defArgs s_right) (defBody s_right) (defScope s_right) [] [] f fd) {fdI fdO fdD fdM fd1 fd2 : FuncData}
    (GI : FnOk P w K mg base CX0 1 (fI K) fdI ["self", "value"] (spInit K)) (bI : Binds K fdI ["self", "value"] [])
    (GO : FnOk P w K mg base CX0 2 (He.ga K "_law_of") fdO ["pot", "some"] (spOf K)) (GOF : FnT K "_law_of" s_of fdO) (GOB : Binds K fdO ["pot", "some"] [])
    (GD : FnOk P w K mg base CX0 3 (He.ga K "_law_odd") fdD ["pot"] (spOdd K)) (GDF : FnT K "_law_odd" s_odd fdD) (GDB : Binds K fdD ["pot"] [])
    (GM : FnOk P w K mg base CX0 3 (He.ga K "_law_all_made") fdM ["thing"] (spMade K)) (GMF : FnT K "_law_all_made" s_all_made fdM) (GMB : Binds K fdM ["thing"] [])
    (G1 : FnOk P w K mg base CX0 1 (He.ga K "_law_first_half") fd1 ["error"] (spHalf K n1)) (G1F : FnT K "_law_first_half" s_first_half fd1) (G1B : Binds K fd1 ["error"] [])
    (G2 : FnOk P w K mg base CX0 1 (He.ga K "_law_second_half") fd2 ["error"] (spHalf K n2)) (G2F : FnT K "_law_second_half" s_second_half fd2) (G2B : Binds K fd2 ["error"] []) :
    FnG P w K mg base CX0 4 f fd ["pot"] spRight := by
  refine okG F sc_right (fun vs H Q E h => ?_) (fun cdv A outer s H vs Q E hr hgd h => ?_)
  · obtain ⟨p, rfl, _⟩ := h
    rfl
  · obtain ⟨p, rfl, hp0, k⟩ := h
    have hr_GO := hr.mono (show 2 ≤ 3 by decide)
    have hr_GD := hr
    have hr_GM := hr
    have hr_G1 := hr.mono (show 1 ≤ 3 by decide)
    have hr_G2 := hr_G1
    have hr_I := hr_GO
    refine ⟨_, PSs.nox (pss_cons (ps_for PassesOwn.never rfl (pi_range1 (by rfl) (T.fr "range" (mem_at 4 rfl)) (pa_cons pe_int pa_nil)) (pg_name (i := 1) sc_right.nd rfl (Or.inl rfl))
        (pss_cons (ps_set (i := 2) sc_right.nd rfl (Or.inl rfl) (pe_call GO hr_GO (by rfl) (T.gd "_law_of" (mem_at 2 rfl)) GOF.kp GOB .nil pass0 (pa_cons (pv 0) (pa_cons (pe_lst (pa_cons (pe_call GD hr_GD (by rfl) (T.gd "_law_odd" (mem_at 4 rfl)) GDF.kp GDB .nil pass0 (pa_cons (pv 0) pa_nil)) (pa_cons (pe_tup (pa_cons (pe_call GD hr_GD (by rfl) (T.gd "_law_odd" (mem_at 4 rfl)) GDF.kp GDB .nil pass0 (pa_cons (pv 0) pa_nil)) (pa_cons pe_int pa_nil))) (pa_cons (pe_lst (pa_cons (pe_call GD hr_GD (by rfl) (T.gd "_law_odd" (mem_at 4 rfl)) GDF.kp GDB .nil pass0 (pa_cons (pv 0) pa_nil)) pa_nil)) (pa_cons (pe_disp (pps_cons pe_str (pe_tup (pa_cons (pe_call GD hr_GD (by rfl) (T.gd "_law_odd" (mem_at 4 rfl)) GDF.kp GDB .nil pass0 (pa_cons (pv 0) pa_nil)) pa_nil)) pps_nil) (by rfl) (by rfl) (fun z => by cases z) (by decide)) pa_nil))))) pa_nil))))
        (pss_cons (ps_set (i := 3) sc_right.nd rfl (Or.inl rfl) (pe_call GM hr_GM (by rfl) (T.gd "_law_all_made" (mem_at 5 rfl)) GMF.kp GMB .nil pass0 (pa_cons (pv 2) pa_nil)))
        (pss_cons (ps_for PassesOwn.never rfl (pi_enum (by rfl) (T.fr "enumerate" (mem_at 9 rfl)) (pa_cons (pv 3) pa_nil)) (pg_tup rfl (pgs_cons (pg_name (i := 4) sc_right.nd rfl (Or.inr rfl)) (pgs_cons (pg_name (i := 5) sc_right.nd rfl (Or.inl rfl)) pgs_nil)))
          (pss_cons (ps_if (PW.pt (pw_or (pt_not (pt_val (pe_isE T (by rfl) (mem_at 0 rfl) (by rfl) (pv 5)))) (pw_or1 (pt_not (pt_val (pe_callB call_isEr (by rfl) (T.fr "isinstance" (mem_at 1 rfl)) (by decide +kernel) (pa_cons (pv 5) (pa_cons (pe_bltn (v := .ty "ValueError") (by rfl) (T.fr "ValueError" (mem_at 11 rfl)) (by decide +kernel) rfl) pa_nil))))))))
            (pss_one (ps_ret pe_bl))
            pss_nil)
          (pss_cons (ps_setLc (i := 6) (own := [("its", 8)]) (g := gName 8) rfl sc_right.nd rfl rfl (sw_true rfl rfl rfl (by decide +kernel)) (pi_range1 (by rfl) (T.fr "range" (mem_at 4 rfl)) (pa_cons (pe_callB call_len_seq (by rfl) (T.fr "len" (by decide +kernel)) PySem.boot_len (pa_cons (pv 3) pa_nil)) pa_nil)) (blkOk_by (N := ["pot", "lap", "thing", "all_here", "at", "error", "marks_here", "bare", "its"]) (sc := defScope s_right) (by decide +kernel)) (fun _ _ _ _ _ => pg_name (i := 8) sc_right.nd rfl (Or.inl rfl)) (fun _ _ _ _ _ => pts_nil) (fun _ _ _ _ _ => (pe_cmpR op_eq (pv 4) (pv 8) (nomark _))))
          (pss_one (ps_if (PW.pt (pw_or (pt_cmpR op_ne (pe_callB (call_repr T.sys hgd hr.units) (by rfl) (T.fr "repr" (mem_at 8 rfl)) (by decide +kernel) (pa_cons (pe_value (pv 5)) pa_nil)) (pe_callB (call_repr T.sys hgd hr.units) (by rfl) (T.fr "repr" (mem_at 8 rfl)) (by decide +kernel) (pa_cons (pv 2) pa_nil)) (nomark _)) (pw_or1 (pt_cmpR (op_neD hr.units) (pe_op op_cat (pe_call G1 hr_G1 (by rfl) (T.gd "_law_first_half" (mem_at 6 rfl)) G1F.kp G1B .nil pass0 (pa_cons (pv 5) pa_nil)) (pe_call G2 hr_G2 (by rfl) (T.gd "_law_second_half" (mem_at 7 rfl)) G2F.kp G2B .nil pass0 (pa_cons (pv 5) pa_nil))) (pv 6) (nomark _)))))
            (pss_one (ps_ret pe_bl))
            pss_nil)))))
        (pss_cons (ps_set (i := 7) sc_right.nd rfl (Or.inl rfl) (pe_mkE T GI bI hr_I (mem_at 0 rfl) (by rfl) (pa_cons (pv 2) pa_nil)))
        (pss_cons (ps_if (PW.pt (pw_or (pt_cmpR op_ne (pe_callB (call_repr T.sys hgd hr.units) (by rfl) (T.fr "repr" (mem_at 8 rfl)) (by decide +kernel) (pa_cons (pe_value (pv 7)) pa_nil)) (pe_callB (call_repr T.sys hgd hr.units) (by rfl) (T.fr "repr" (mem_at 8 rfl)) (by decide +kernel) (pa_cons (pv 2) pa_nil)) (nomark _)) (pw_or1 (pt_not (pt_val (pe_callB call_isEr (by rfl) (T.fr "isinstance" (mem_at 1 rfl)) (by decide +kernel) (pa_cons (pv 7) (pa_cons (pe_bltn (v := .ty "ValueError") (by rfl) (T.fr "ValueError" (mem_at 11 rfl)) (by decide +kernel) rfl) pa_nil))))))))
          (pss_one (ps_ret pe_bl))
          pss_nil)
        (pss_one (ps_if (pt_cmpR op_in_seq pe_bl (pe_op op_cat (pe_call G1 hr_G1 (by rfl) (T.gd "_law_first_half" (mem_at 6 rfl)) G1F.kp G1B .nil pass0 (pa_cons (pv 7) pa_nil)) (pe_call G2 hr_G2 (by rfl) (T.gd "_law_second_half" (mem_at 7 rfl)) G2F.kp G2B .nil pass0 (pa_cons (pv 7) pa_nil))) (by rfl))
          (pss_one (ps_ret pe_bl))
          pss_nil))))))))
      (pss_one (ps_ret pe_bl))), ?_⟩
    have odd : ∀ σ : L2.St, σ[0]? = some (some (.ref p)) → EvP K (tCall (spOdd K) [] E0 (tCons (tVar 0) tNil)) σ p 1 (fun d => d ∈ oddDs) := fun σ h0 H n hp hn Q k =>
      ⟨.ref p, h0, p, n, rfl, hp, by omega, fun H' v d hd sm hp' f => k v d H' hd sm hp' f⟩
    refine i_for ⟨3, rfl, by decide, by decide, fr_range (n := 3) (fun i σ H1 => (∃ a1 a2 a3 a4 a5 a6 a7 a8, σ = [some (.ref p), a1, a2, a3, a4, a5, a6, a7, a8]) ∧ Pot H1 p (5 * (i : Nat)) ∧ Same (But H p) (But H1 p)) ⟨⟨none, none, none, none, none, none, none, none, rfl⟩, (by rw [show (5 * ((0 : Nat) : Int)) = 0 by decide]; exact hp0), Same.refl _⟩ ?_ ?_⟩
    · rintro i σ H1 hi ⟨⟨a1, a2, a3, a4, a5, a6, a7, a8, rfl⟩, hp1, sm1⟩
      show tSeq _ _ _ [some (.ref p), some (.int (0 + i)), a2, a3, a4, a5, a6, a7, a8] H1
      -- thing
      refine i_set (i_call (i_cons (i_var (v := .ref p) rfl (i_cons (i_lst ?_)))))
      have L : EvPs K _ [some (.ref p), some (.int (0 + i)), a2, a3, a4, a5, a6, a7, a8] p _ (AllR 4 (fun d => d ∈ thingDs)) :=
        evPs_consA ((odd _ rfl).imp fun d hd => thing_in hd (by simp [thingOf]))
        (evPs_consA (evP_tup (evPs_cons (odd _ rfl) (evDs_cons (evD_c fun _ => .int 3) evDs_nil) (by decide) (by decide)) (fun ds ⟨d, r, e, hd, er⟩ => by rw [e, er]; exact Nat.le_of_ble_eq_true rfl) (fun ds ⟨d, r, e, hd, er⟩ => by rw [e, er]; exact thing_in hd (by simp [thingOf])))
        (evPs_consA (evP_lst (evPs_cons (odd _ rfl) evDs_nil (by decide) (by decide)) (fun ds ⟨d, r, e, hd, er⟩ => by rw [e, er]; exact Nat.le_of_ble_eq_true rfl) (fun ds ⟨d, r, e, hd, er⟩ => by rw [e, er]; exact thing_in hd (by simp [thingOf])))
        (evPs_consA (evP_d1 (x := "a") (R := fun z => ∃ d ∈ oddDs, z = .tuple [d]) (evP_tup (evPs_cons (odd _ rfl) evDs_nil (by decide) (by decide)) (fun ds ⟨d, r, e, hd, er⟩ => by rw [e, er]; exact Nat.le_of_ble_eq_true rfl) (fun ds ⟨d, r, e, hd, er⟩ => ⟨d, hd, by rw [e, er]⟩)) (fun z ⟨d, hd, e⟩ => by rw [e]; exact thing_in hd (by simp [thingOf])))
          evPs_nilA (by decide) (by decide)) (by decide) (by decide)) (by decide) (by decide)) (by decide) (by decide)
      refine L H1 _ hp1 (by omega) _ fun vs ds H2 ⟨ln, rd⟩ s2 p2 f2 => ?_
      have lv : vs.length = 4 := by rw [f2.len, ln]
      refine ⟨by rw [lv]; decide, fun l hl => i_nil ?_⟩
      have nl : l ≠ p := fun e => pot_some p2 (e ▸ hl)
      have sl := but_fresh (o := .lst vs) hl (pot_some p2)
      refine ⟨p, l, vs, _, rfl, .inl (.inl ((del_ne nl).trans upd_same)), by rw [lv]; decide, by rw [lv]; decide, p2.new hl, by omega, fun H3 v s3 p3 hv => ?_⟩
      obtain ⟨d, hd, fd3⟩ := ((f2.on sl).on s3).mem hv
      have shw := shows_of (rd d hd)
      have sh3 : Sh K H3 v d := fd3.sh
      have sm3 : Same (But H p) (But H3 p) := (sm1.trans s2).trans (sl.trans s3)
      have p3' : Pot H3 p (5 * ((i + 1 : Nat) : Int)) := by
        obtain ⟨x1, x2, x3, y1, y2, y3, y4, y5, y6, y7⟩ := p3
        exact ⟨x1, x2, x3, y1, y2, y3, y4, y5, by omega, by omega⟩
      clear f2 fd3 s2 s3 sl p2 p3 hl sm1 hp1
      -- all_here
      refine i_set (i_call (i_cons (i_var (v := v) rfl (i_nil ⟨v, rfl, fun H4 L4 es s4 n4 hL4 hE4 => ?_⟩))))
      have len4 : es.length = 51 := hE4.len
      refine i_for (i_cons (i_var (v := .ref L4) rfl (i_nil ⟨L4, es.map V.ref, rfl, SqL.of hL4, fr_enum (xs := es.map V.ref) (fun j σ H5 => (∃ b1 b4 b5 b6 b7 b8, σ = [some (.ref p), b1, some v, some (.ref L4), b4, b5, b6, b7, b8]) ∧ Same H4 H5) ⟨⟨_, _, _, _, _, _, rfl⟩, Same.refl _⟩ (fun j σ H5 _ h => h.2.seq (SqL.of hL4)) ?_ ?_⟩)))
      · rintro j x σ H5 hx ⟨⟨b1, b4, b5, b6, b7, b8, rfl⟩, s5⟩ T5 nT5
        obtain ⟨e, he, rfl⟩ : ∃ e, es[j]? = some e ∧ x = V.ref e := by
          rw [List.getElem?_map] at hx
          cases q : es[j]? with
          | none => rw [q] at hx; cases hx
          | some e => rw [q] at hx; exact ⟨e, rfl, (Option.some.inj hx).symm⟩
        obtain ⟨nm, d5, hnm, hEr4⟩ := hE4.at he
        have hmem : nm ∈ alls := List.mem_cons_of_mem _ (List.mem_of_getElem? hnm)
        have s6 : Same H4 (upd H5 T5 (.tup [.int (j : Nat), .ref e])) := s5.trans (same_new nT5)
        refine ⟨T5, _, rfl, .inl (.inl upd_same), rfl, _, _, rfl, _, _, rfl, rfl, ?_⟩
        generalize upd H5 T5 (.tup [.int (j : Nat), .ref e]) = H6 at s6
        have hE6 : ErrAt H6 e (He.ga K nm) d5 v := hEr4.same s6
        have ec := (T.er nm hmem).2
        show tSeq _ _ _ [some (.ref p), b1, some v, some (.ref L4), some (.int (j : Nat)), some (.ref e), b6, b7, b8] H6
        refine i_if0 ?_
        refine ⟨.ref e, rfl, e, _, _, _, _, _, _, _, rfl, ec, hE6, (fun w hw => hw), T.kitP nm hmem, true, rfl, iteF ?_⟩
        refine ⟨.ref e, rfl, e, _, _, _, _, .ty "ValueError", _, _, rfl, ec, hE6, (fun w hw => hw), T.kitV nm hmem, true, rfl, iteF ?_⟩
        -- marks_here
        refine i_set (i_lc ?_)
        refine ⟨.ref L4, rfl, L4, es.map V.ref, rfl, .inl (s6.seq (SqL.of hL4)), 51, by rw [List.length_map, len4]; rfl, by decide, by decide, fun D7 n7 => ?_⟩
        refine lr_range (n := 51) (fun jj H7 => H7 D7 = some (.lst ((List.range jj).map fun z => V.bl (decide (j = z)))) ∧ Same H6 H7) ⟨upd_same, same_new n7⟩ (fun jj H7 hjj h7 => ?_) (fun H7 h7 => ?_)
        · obtain ⟨e7, s7⟩ := h7
          refine ⟨rfl, .int (j : Nat), rfl, .int (0 + (jj : Nat)), rfl, rfl, _, e7, ?_, ?_, same_mut s7 n7⟩
          · rw [List.length_map, List.length_range]
            exact small1000 (by omega)
          · rw [upd_same, List.range_succ, List.map_append]
            have q : decide (V.int (j : Nat) = V.int (0 + (jj : Nat))) = decide (j = jj) := by
              rw [dec_int, Int.zero_add]
              by_cases e : j = jj
              · rw [e, beq_self_eq_true, decide_eq_true rfl]
              · rw [decide_eq_false e]
                exact beq_eq_false_iff_ne.mpr fun z => e (Int.ofNat.inj z)
            rw [q]
            rfl
        obtain ⟨e7, s7⟩ := h7
        have hE7 := hE6.same s7
        have sh7 : Sh K H7 v d := sh3.same (s4.trans (s6.trans s7))
        refine i_if1 ?_
        refine ⟨.ref e, rfl, e, _, _, _, _, rfl, ec, hE7, v, d, rfl, sh7, shw, v, rfl, v, d, rfl, sh7, shw, rfl, _, rfl, iteNS rfl ?_⟩
        refine ⟨.ref e, rfl, e, d5, nm, v, rfl, hmem, hE7, fun H8 q1 s8 n8 h8 => ⟨.ref e, rfl, e, d5, nm, v, rfl, hmem, hE7.same s8, fun H9 q2 s9 n9 h9 => ⟨q1, q2, _, _, rfl, rfl, s9 _ _ h8, h9, ?_, fun q3 n10 => ?_⟩⟩⟩
        · rw [List.length_map, List.length_map]
          decide
        have s10 : Same H9 (upd H9 q3 (.lst ((n1.map fun y => V.bl (decide (nm = y))) ++ (n2.map fun y => V.bl (decide (nm = y)))))) := same_new n10
        have eb : (n1.map fun y => V.bl (decide (nm = y))) ++ (n2.map fun y => V.bl (decide (nm = y))) = (marks nm).map V.bl := by
          unfold marks errs
          rw [List.map_append, List.map_append, List.map_map, List.map_map]
          rfl
        have em : ((List.range 51).map fun z => V.bl (decide (j = z))) = (marks nm).map V.bl := by
          rw [← marks_at j nm hnm, List.map_map]
          rfl
        refine ⟨.ref D7, rfl, .list ((marks nm).map .bool), .list ((marks nm).map .bool), .lst (SqL.of (by rw [upd_same, eb])) (dp_bools _), .lst (SqL.of (by rw [s10 _ _ (s9 _ _ (s8 _ _ e7)), em])) (dp_bools _), shaped_bools _, shaped_bools _, _, rfl, ?_⟩
        rw [SeqAt.eqv_refl _ (by simpa only [PyData.canLay0] using canLay_bools _)]
        refine iteF ⟨⟨_, _, _, _, _, _, rfl⟩, s6.trans (s7.trans (s8.trans (s9.trans s10)))⟩
      · rintro σ H5 ⟨⟨b1, b4, b5, b6, b7, b8, rfl⟩, s5⟩
        have hP : ("PourError" : Str) ∈ alls := mem_at 0 rfl
        have ec := (T.er _ hP).2
        refine i_set (i_mkv (v := v) rfl ec fun e d5 H6 s6 hE6 => ?_)
        have sh6 : Sh K H6 v d := sh3.same (s4.trans (s5.trans s6))
        refine i_if0 ?_
        refine ⟨.ref e, rfl, e, _, _, _, _, rfl, ec, hE6, v, d, rfl, sh6, shw, v, rfl, v, d, rfl, sh6, shw, rfl, _, rfl, iteNS rfl ?_⟩
        refine ⟨.ref e, rfl, e, _, _, _, _, .ty "ValueError", _, _, rfl, ec, hE6, (fun w hw => hw), T.kitV _ hP, true, rfl, iteF ?_⟩
        refine i_if1 ?_
        refine ⟨.ref e, rfl, e, d5, _, v, rfl, hP, hE6, fun H8 q1 s8 n8 h8 => ⟨.ref e, rfl, e, d5, _, v, rfl, hP, hE6.same s8, fun H9 q2 s9 n9 h9 => ⟨q1, q2, _, _, rfl, rfl, s9 _ _ h8, h9, ?_, fun q3 n10 => ?_⟩⟩⟩
        · rw [List.length_map, List.length_map]
          decide
        have s10 : Same H9 (upd H9 q3 (.lst ((n1.map fun y => V.bl (decide (("PourError" : Str) = y))) ++ (n2.map fun y => V.bl (decide (("PourError" : Str) = y)))))) := same_new n10
        refine ⟨q3, _, rfl, .inl (SqL.of upd_same), rfl, ?_, _, rfl, ?_⟩
        · rw [List.all_append, List.all_map, List.all_map]
          exact Bool.and_eq_true_iff.mpr ⟨List.all_eq_true.mpr fun _ _ => rfl, List.all_eq_true.mpr fun _ _ => rfl⟩
        have nin : inV (.bl true) ((n1.map fun y => V.bl (decide (("PourError" : Str) = y))) ++ (n2.map fun y => V.bl (decide (("PourError" : Str) = y)))) = false := by decide +kernel
        show if inV (.bl true) ((n1.map fun y => V.bl (decide (("PourError" : Str) = y))) ++ (n2.map fun y => V.bl (decide (("PourError" : Str) = y)))) = true then _ else _
        rw [nin]
        have sx : Same H3 _ := s4.trans (s5.trans (s6.trans (s8.trans (s9.trans s10))))
        exact iteF ⟨⟨_, _, _, _, _, _, _, _, rfl⟩, p3'.same sx, sm3.trans (same_but sx)⟩
    · rintro σ H1 ⟨_, _, sm⟩
      exact k H1 sm

end
end K00
set_option Elab.async false
set_option linter.all false
set_option maxRecDepth 100000
set_option maxHeartbeats 4000000
namespace K00
open PySem PySem.Spec PyProof.Rows L2 Er
def spLaw (K : PySem.W.Frag) : Sp := fun vs H Q _ => ∃ (a : Addr) (ns : List Int), vs = [.ref a] ∧ SqL K H a (ns.map V.int) ∧ ns.length ≤ 63 ∧ ∀ H', Q (.bl true) H'
section
variable {P : Program} {w : World} {K : PySem.W.Frag} {mg : Str → Option Value} {base : Heap} {f : Addr} {fd : FuncData}
theorem sc_law : FnScope ["script", "place"] ["script"] (defScope s_law) := ⟨rfl, rfl, rfl, by decide +kernel, rfl, by decide +kernel, by decide +kernel⟩
theorem ok_law (T : Tx K mg) (F : FunD K "law" "law" (defArgs s_law) (defBody s_law) (defScope s_law) [] [] f fd) {fdR fdP fdC : FuncData}
    (GR : FnG P w K mg base CX0 4 (He.ga K "_law_right") fdR ["pot"] spRight) (FR : FnT K "_law_right" s_right fdR) (bR : Binds K fdR ["pot"] [])
    (GP : FnOk P w K mg base CX0 1 (He.ga K "_law_pot") fdP ["script", "place"] (spPot K)) (FP : FnT K "_law_pot" s_pot fdP) (bP : Binds K fdP ["script", "place"] [])
    (GC : FnOk P w K mg base CX0 1 (He.ga K "_law_cells") fdC ["script", "limit"] (spCells K)) (FC : FnT K "_law_cells" s_cells fdC) (bC : Binds K fdC ["script", "limit"] []) :
    FnG P w K mg base CX0 5 f fd ["script"] (spLaw K) := by
  refine okG F sc_law (fun vs H Q E h => ?_) (fun cdv A outer s H vs Q E hr hgd h => ?_)
  · obtain ⟨a, ns, rfl, _⟩ := h
    rfl
  · obtain ⟨a, ns, rfl, hS, hl, k⟩ := h
    have hr1 := hr.mono (show 1 ≤ 4 by decide)
    refine ⟨_, PSs.nox (pss_one (ps_ret (pe_callB (cr_all rfl) (by rfl) (T.fr "all" (mem_at 10 rfl)) (by decide +kernel) (pa_cons (pe_lc (own := [("place", 1)]) (g := gName 1) (tt := tYes) rfl sc_law.nd
      (pi_list (pe_call GC hr1 (by rfl) (T.gd "_law_cells" (mem_at 3 rfl)) FC.kp bC .nil pass0 (pa_cons (pv 0) (pa_cons pe_int pa_nil)))) (blkOk_by (N := ["script", "place"]) (sc := defScope s_law) (by decide +kernel))
      (fun _ _ _ _ _ => pg_name (i := 1) sc_law.nd rfl (Or.inl rfl)) (fun _ _ _ _ _ => pts_nil)
      (fun _ _ _ _ _ => pe_callG GR hr hgd (by rfl) (T.gd "_law_right" (mem_at 8 rfl)) FR.kp bR .nil pass0 (pa_cons (pe_call GP hr1 (by rfl) (T.gd "_law_pot" (mem_at 0 rfl)) FP.kp bP .nil pass0 (pa_cons (pv 0) (pa_cons (pv 1) pa_nil))) pa_nil))) pa_nil)))), ?_⟩
    refine i_ret (i_cb (i_cons (i_lc ?_)))
    refine ⟨.ref a, rfl, a, ns, 2, rfl, hS, hl, by decide, by decide, fun H1 pc m s1 n1 hm hpc => ⟨pc, rfl, ⟨_, SqL.of hpc⟩, fun Dl nD => ?_⟩⟩
    refine lr_list (xs := (List.range m).map fun j => V.int (j : Nat)) (fun i H2 => H2 Dl = some (.lst (List.replicate i (V.bl true))) ∧ Same H1 H2) ⟨upd_same, same_new nD⟩ (fun i H2 _ h => h.2.seq (SqL.of hpc)) (fun i x H2 hx h2 => ?_) (fun H2 h2 => ?_)
    · obtain ⟨e2, s2⟩ := h2
      obtain ⟨j, hj, rfl⟩ : ∃ j : Nat, j < m ∧ x = V.int (j : Nat) := by
        rw [List.getElem?_map] at hx
        cases q : (List.range m)[i]? with
        | none => rw [q] at hx; cases hx
        | some j =>
          rw [q] at hx
          exact ⟨j, List.mem_range.mp (List.mem_of_getElem? q), (Option.some.inj hx).symm⟩
      refine ⟨rfl, .ref a, rfl, .int (j : Nat), rfl, a, ns, (j : Nat), rfl, (s1.trans s2).seq hS, hl, by omega, by omega, fun H3 p s3 n3 hp => ⟨p, rfl, hp, fun H4 s4 => ?_⟩⟩
      have np : ∀ {b : Addr} {o : HO}, H2 b = some o → b ≠ p := fun {b o} e => ne_of_none e n3
      have s5 : Same H2 H4 := fun b o e => by
        have ne := np e
        exact (del_ne ne).symm.trans (s4 b o ((del_ne ne).trans (s3 b o e)))
      refine ⟨_, s5 _ _ e2, ?_, ?_, same_mut (s2.trans s5) nD⟩
      · rw [List.length_replicate]
        have hi : i < m := by
          have z := (List.getElem?_eq_some_iff.mp hx).1
          rw [List.length_map, List.length_range] at z
          exact z
        exact small1000 (by omega)
      · rw [upd_same, List.replicate_succ']
    · obtain ⟨e2, s2⟩ := h2
      rw [List.length_map, List.length_range] at e2
      refine i_nil ⟨Dl, List.replicate m true, rfl, SqL.of (by rw [e2, List.map_replicate]), ?_⟩
      rw [show (List.replicate m true).all id = true from List.all_eq_true.mpr fun b hb => (List.eq_of_mem_replicate hb)]
      exact k _
end
theorem facts {P : Program} {w : World} {K : PySem.W.Frag} {h : Heap} {mg : Str → Option Value} {f : Addr} (X : K.In h) (G : h.Ns mainGlobals mg) (hfa : mg ("law" : Str) = some (.ref f)) (c : SaysX xb fa fn K) :
    ∃ fd : FuncData, (∀ (s : Shared) (v : Value), BindsTo s fd ⟨[v], []⟩ [("script", v)]) ∧ ∀ base : Heap, K.In base → base.Ns mainGlobals mg → FnG P w K mg base CX0 5 f fd ["script"] (spLaw K) := by
  have T := tx_of X G c
  have c1 := c.two.1
  obtain ⟨fdI, FI⟩ := c1.def_ 0 (d := d_init) rfl
  obtain ⟨fdP, FP⟩ := c1.def_ 1 (d := d_pot) rfl
  obtain ⟨fdT, FT⟩ := c1.def_ 2 (d := d_take) rfl
  obtain ⟨fdO, FO⟩ := c1.def_ 3 (d := d_of) rfl
  obtain ⟨fdC, FC⟩ := c1.def_ 4 (d := d_cells) rfl
  obtain ⟨fdD, FD⟩ := c1.def_ 5 (d := d_odd) rfl
  obtain ⟨fdM, FM⟩ := c1.def_ 6 (d := d_all_made) rfl
  obtain ⟨fd1, F1⟩ := c1.def_ 7 (d := d_first_half) rfl
  obtain ⟨fd2, F2⟩ := c1.def_ 8 (d := d_second_half) rfl
  obtain ⟨fdR, FR⟩ := c1.def_ 9 (d := d_right) rfl
  obtain ⟨fdL, FL⟩ := c1.def_ 10 (d := d_law) rfl
  have e := hfa.symm.trans (T.gd "law" (mem_at 9 rfl))
  cases e
  have bI : Binds K fdI ["self", "value"] [] := FunD.bindsN FI fun _ _ _ _ _ _ us hl => match us, hl with | [_, _], _ => rfl
  have bP : Binds K fdP ["script", "place"] [] := FunD.bindsN FP fun _ _ _ _ _ _ us hl => match us, hl with | [_, _], _ => rfl
  have bT : Binds K fdT ["pot", "upto"] [] := FunD.bindsN FT fun _ _ _ _ _ _ us hl => match us, hl with | [_, _], _ => rfl
  have bO : Binds K fdO ["pot", "some"] [] := FunD.bindsN FO fun _ _ _ _ _ _ us hl => match us, hl with | [_, _], _ => rfl
  have bC : Binds K fdC ["script", "limit"] [] := FunD.bindsN FC fun _ _ _ _ _ _ us hl => match us, hl with | [_, _], _ => rfl
  have bD : Binds K fdD ["pot"] [] := FunD.bindsN FD fun _ _ _ _ _ _ us hl => match us, hl with | [_], _ => rfl
  have bM : Binds K fdM ["thing"] [] := FunD.bindsN FM fun _ _ _ _ _ _ us hl => match us, hl with | [_], _ => rfl
  have b1 : Binds K fd1 ["error"] [] := FunD.bindsN F1 fun _ _ _ _ _ _ us hl => match us, hl with | [_], _ => rfl
  have b2 : Binds K fd2 ["error"] [] := FunD.bindsN F2 fun _ _ _ _ _ _ us hl => match us, hl with | [_], _ => rfl
  have bR : Binds K fdR ["pot"] [] := FunD.bindsN FR fun _ _ _ _ _ _ us hl => match us, hl with | [_], _ => rfl
  have bL := FunD.bindsA (ps := ["script"]) FL fun _ _ _ _ _ _ us hl => match us, hl with | [_], _ => rfl
  refine ⟨fdL, fun s v => bL s [v] rfl, fun base _ _ => ?_⟩
  have GI : FnOk P w K mg base CX0 1 (fI K) fdI ["self", "value"] (spInit K) := ok_init (st := sInit) (q := "PourError.__init__") FI sc_init rfl (.inl rfl) (.inl rfl) fun _ _ => rfl
  have GO : FnOk P w K mg base CX0 2 (He.ga K "_law_of") fdO ["pot", "some"] (spOf K) := ok_of T FO FT bT
  have GD : FnOk P w K mg base CX0 3 (He.ga K "_law_odd") fdD ["pot"] (spOdd K) := ok_odd T FD GO FO bO
  exact ok_law T FL (ok_right T FR GI bI GO FO bO GD FD bD (ok_all_made T FM GI bI) FM bM (ok_first_half T F1) F1 b1 (ok_second_half T F2) F2 b2) FR bR (ok_pot T FP) FP bP (ok_cells T FC) FC bC
end K00
open PySem PySem.W PySem.Calls PyProof.Rows
set_option maxRecDepth 100000 in
set_option maxHeartbeats 0 in
theorem PySem.Challenge.cw_dyedpours_k00_errors_keep_their_value_holds : PySem.Challenge.rw_dyedpours_k00_errors_keep_their_value.Holds := by
  w_on; o_law
  refine HandSHeadRun.head_any (r := OpenLaw.row PySem.Challenge.rw_dyedpours_k00_errors_keep_their_value) (q := view (OpenLaw.row PySem.Challenge.rw_dyedpours_k00_errors_keep_their_value).prog [63]) (H := K00.hk) (ob := K00.ob) (M := 20000) (loose := K00.loose1 ++ K00.loose2) (d := HandSHeadRun.topDef (OpenLaw.row PySem.Challenge.rw_dyedpours_k00_errors_keep_their_value).prog 63) (kwd := []) K00.ob_eq
    (by kernel_rfl) (fun s => by kernel_rfl) K00.run (by kernel_rfl) (by kernel_rfl) (by kernel_rfl) (by rfl) (by first | assumption | decide +kernel) (by decide +kernel) ⟨rfl, rfl, rfl, rfl, rfl, by decide +kernel⟩ ?hw ?hc
  case hw => w_witness2
  case hc =>
    refine Er.walk_ofG (l := PySem.Challenge.rw_dyedpours_k00_errors_keep_their_value) (n := 63) (k := 5) (x := "script") (CX := fun _ => L2.CX0) rfl (by decide) (by kernel_rfl) ⟨rfl, by decide, by decide⟩ ?F (fun _ _ _ _ _ z => z)
    intro w mg fa h Y G hmg0
    obtain ⟨K, KX, c⟩ := Y
    have hmg : mg ("law" : PySem.Str) = some (.ref fa) := by
      have e : (HandSHeadRun.topDef (OpenLaw.row PySem.Challenge.rw_dyedpours_k00_errors_keep_their_value).prog 63).name = ("law" : PySem.Str) := by kernel_rfl
      rw [← e]
      exact hmg0
    obtain ⟨fd, hb, hF⟩ := K00.facts (P := (PySem.Challenge.rw_dyedpours_k00_errors_keep_their_value).prog) (w := w) KX G hmg c
    exact ⟨K, fd, K00.spLaw K, KX, hb, fun H a ns hl _ hS => ⟨a, ns, rfl, hS, hl, fun _ => rfl⟩, hF⟩
