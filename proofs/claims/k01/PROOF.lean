import PyProof.Rows.All
import Wide.All
import OpenK.AllK
import Wide.FinOn
import HandS.ForMost
import HandS.Property
import HandS.FStr
import PyProof.ReprReads
import PyProof.InstNe
import PyProof.ReprRoads
import KE.KFmtOwn
import HandS.IsInst
import HandS.Small
import HandS.Ends
import HandS.ExcInit
import HandS.ExcField
import KE.KExcIs
import KE.KExcInit
import HandS.ExcValue
import HandS.Dict
import KE.KEqNest
import PyProof.Rows.CountFlat
import HandS.Iter
import PySem.Challenge.RW_overlapturns_k01_limits_and_errors
import HandS.NoneIn
import HandS.Conv
import HandS.Codes
set_option Elab.async false
set_option linter.all false
set_option maxRecDepth 100000
set_option maxHeartbeats 8000000
set_option Elab.async false
set_option linter.all false
namespace G
open PySem PySem.Spec PyProof.Rows L2

/-- a def's promise where no repr is under way -/
structure FG (P : Program) (w : World) (K : PySem.W.Frag) (mg : Str → Option Value) (base : Heap) (CX : CXT) (k : Nat) (f : Addr) (fd : FuncData) (ps : List Str) (sp : Sp) : Prop where
  ln : ∀ vs H Q E, sp vs H Q E → vs.length = ps.length
  go : ∀ (A : Around), A.guards = some [] → ∀ (outer : List Env) (s : Shared) (H : Hp) (args : Args) (us : List Value) (vs : List V) (Q : VK) (E : XK),
    Room k A → Env0 P w K mg base A outer s H → BindsTo s fd args (ps.zip us) → Vals vs us → sp vs H Q E →
      codeAny (model P w) A (.call (.ref f) args) (CR CX outer P w H s Q E) s

section
variable {P : Program} {w : World} {K : PySem.W.Frag} {mg : Str → Option Value} {base : Heap} {CX : CXT} {j k : Nat} {f : Addr} {fd : FuncData} {ps : List Str} {sp sp' : Sp}
theorem FG.of (F : FnOk P w K mg base CX k f fd ps sp) : FG P w K mg base CX k f fd ps sp :=
  ⟨F.len, fun A _ outer s H args us vs Q E => F.run A outer s H args us vs Q E⟩
theorem FG.up (F : FG P w K mg base CX j f fd ps sp) (h : j ≤ k) : FG P w K mg base CX k f fd ps sp :=
  ⟨F.ln, fun A g outer s H args us vs Q E r => F.go A g outer s H args us vs Q E (r.mono h)⟩
theorem FG.weak (F : FG P w K mg base CX k f fd ps sp) (h : ∀ vs H Q E, sp' vs H Q E → sp vs H Q E) : FG P w K mg base CX k f fd ps sp' :=
  ⟨fun vs H Q E q => F.ln vs H Q E (h _ _ _ _ q), fun A g outer s H args us vs Q E r e b v q => F.go A g outer s H args us vs Q E r e b v (h _ _ _ _ q)⟩

/-- FnOk at one surrounding: all that a call asks, with A fixed ahead -/
theorem fg_of {name qual : Str} {params : Arguments} {body : List Stmt} {scope : Scope} {dV kV doc pm cdv ct oc : Value} {an od : Option Addr} {osl : Array (Option Value)} {N : List Str}
    (lk : K.lookup f = some ⟨oc, od, .func (PySem.W.fnOf name qual params body scope dV kV doc pm an cdv ct), osl⟩) (hcd : PySem.W.codeIn K cdv qual = true) (S : FnScope N ps scope)
    (len : ∀ vs H Q E, sp vs H Q E → vs.length = ps.length)
    (hbody : ∀ (A : Around) (outer : List Env) (s : Shared) (H : Hp) (vs : List V) (Q : VK) (E : XK),
      (A.deeper (envOfC qual scope s.heap.objs.size f cdv)).guards = some [] → Room k (A.deeper (envOfC qual scope s.heap.objs.size f cdv)) → sp vs H Q E →
      ∃ t, PSs (cxOf CX P w K mg base N qual scope f cdv A outer s H E) body t ∧ t { nx := fun _ H' => Q .non H', rt := Q } (start N vs) H) :
    FG P w K mg base CX (k + 1) f (PySem.W.fnOf name qual params body scope dV kV doc pm an cdv ct) ps sp := by
  refine ⟨len, fun A g outer s H args us vs Q E hr e0 hb r hsp => ?_⟩
  have gd : (A.deeper (envOfC qual scope s.heap.objs.size f cdv)).guards = some [] := g
  obtain ⟨t, ht, hq⟩ := hbody A outer s H vs Q E gd (hr.deeper _) hsp
  have hl := len _ _ _ _ hsp
  have keep : K.In s.heap := e0.mod.kin.keeps fun b o e => (e0.bs b o e).1
  have kd : ∀ y ∈ ps.zip us, scope.names.lookup y.1 = some .local ∨
      (scope.names.lookup y.1 = some .cell ∧ ((cellsFrom (s.heap.objs.size + 1) scope.names []).lookup y.1).isSome = true) := by
    rintro ⟨n, v⟩ hy
    exact (S.par n (List.of_mem_zip hy).1).imp (fun q => q) fun q => ⟨q, PySem.W.cellsFrom_some _ _ _ (.inl q)⟩
  refine codeAny_call_function hr.depth (keep _ _ lk) rfl S.co S.gen rfl (PySem.W.codeRec_of keep hcd)
    (hb _ _ _ _ (wpAny_newFunctionEnv_cells S.kind kd fun env he s1 x => ?_))
  cases he
  refine ⟨(e0.mod.nolimit.keeps fun b o e => (e0.bs b o e).1).keeps x.toInCall.keep, codeAny_func ?_⟩
  have I := inv_start (CX := CX) (E := E) S hr.hd e0 hl r x
  refine wpAny_mono (ht.run [] s1 (start N vs) H _ I hq) (fun fl s' hs => ?_) fun _ _ z => z
  cases fl with
  | ret u =>
    obtain ⟨v, _, H', J, rv, q⟩ := hs
    exact ⟨v, H', J.os, J.bare, J.base, J.hok, rv, q⟩
  | next =>
    obtain ⟨_, H', J, q⟩ := hs
    exact ⟨V.non, H', J.os, J.bare, J.base, J.hok, rfl, q⟩
  | brk =>
    obtain ⟨_, _, _, z⟩ := hs
    exact z.elim
  | cont =>
    obtain ⟨_, _, _, z⟩ := hs
    exact z.elim

/-- a def of the text that nothing raised leaves -/
theorem fun_okG {x qual : Str} {st : Stmt} {N : List Str} (F : Fun K x qual st f fd) (S : FnScope N ps (defScope st)) (len : ∀ vs H Q E, sp vs H Q E → vs.length = ps.length)
    (hbody : ∀ (cdv : Value) (A : Around) (outer : List Env) (s : Shared) (H : Hp) (vs : List V) (Q : VK) (E : XK),
      (A.deeper (envOfC qual (defScope st) s.heap.objs.size f cdv)).guards = some [] → Room k (A.deeper (envOfC qual (defScope st) s.heap.objs.size f cdv)) → sp vs H Q E →
      ∃ t, PSs (cxOf CX0 P w K mg base N qual (defScope st) f cdv A outer s H E).nox (defBody st) t ∧ t { nx := fun _ H' => Q .non H', rt := Q } (start N vs) H) :
    FG P w K mg base CX0 (k + 1) f fd ps sp := by
  obtain ⟨_, _, _, _, _, _, cdv, _, _, rfl, lk, hcd⟩ := F.ex
  refine fg_of lk hcd S len fun A outer s H vs Q E g hr h => ?_
  obtain ⟨t, d, q⟩ := hbody cdv A outer s H vs Q E g hr h
  exact ⟨t, d.nox, q⟩
end

/-- how a call's values come to the parameters: positional us, then the names ks with ws; g is their order -/
structure KB (K : PySem.W.Frag) (fd : FuncData) (ps : List Str) (n : Nat) (ks : List Str) (g : {α : Type} → List α → List α → List α) : Prop where
  ar : ∀ (s : Shared) (us ws : List Value), us.length = n → ws.length = ks.length → BindsTo s fd ⟨us, ks.zip ws⟩ (ps.zip (g us ws))
  re : ∀ {vs zs : List V} {us ws : List Value}, Vals vs us → Vals zs ws → Vals (g vs zs) (g us ws)

/-- a def of the module under its name -/
structure Cal (P : Program) (w : World) (K : PySem.W.Frag) (mg : Str → Option Value) (base : Heap) (x : Str) (k : Nat) (ps : List Str) (sp : Sp) : Prop where
  ex : ∃ f fd, FG P w K mg base CX0 k f fd ps sp ∧ mg x = some (.ref f) ∧ PySem.W.keepIn K (.ref f) = true ∧ Binds K fd ps []
section
variable {X : Cx} {pins : List (Addr × Obj)} {σ : L2.St} {H : Hp} {s : Shared} {Q : VK} {CX : CXT} {k : Nat} {f C : Addr} {fd : FuncData} {ps : List Str} {sp : Sp} {E : XK}
/-- what a callee's end is for the caller -/
theorem back_of (hx : Passes CX X E) (I : Inv X pins σ H s) {r : Result} {s' : Shared} (hq : CR CX X.stack X.prog X.w H s Q E r s') : wants (EP X pins σ Q) X.xe r s' := by
  cases r with
  | error e => exact hx pins σ H s e s' I hq
  | ok fl =>
    cases fl <;> first | exact I.after hq | exact False.elim hq
theorem run_g (F : FG X.prog X.w X.K X.mg X.base CX k f fd ps sp) (gd : X.A.guards = some []) (hr : Room k X.A) (hx : Passes CX X E) (I : Inv X pins σ H s) {args : Args} {us : List Value} {vs : List V}
    (hb : BindsTo s fd args (ps.zip us)) (r : Vals vs us) (h : sp vs H Q E) : codeAny (model X.prog X.w) X.A (.call (.ref f) args) (wants (EP X pins σ Q) X.xe) s :=
  codeAny_mono (F.go X.A gd X.stack s H args us vs Q E hr I.env0 hb r h) fun _ _ hq => back_of hx I hq
end

section
variable {X : Cx} {CX : CXT} {k : Nat} {f C : Addr} {fd : FuncData} {ps ks : List Str} {sp : Sp} {E : XK} {x m : Str} {p pos apos : Pos} {e o : Expr} {es : List Expr} {kws : List Keyword} {ta : TE} {t tk : TA} {n : Nat} {g : {α : Type} → List α → List α → List α}

theorem binds_to {K : PySem.W.Frag} {s : Shared} {us : List Value} (hb : Binds K fd ps []) (kx : K.In s.heap) (hl : us.length = ps.length) : BindsTo s fd ⟨us, []⟩ (ps.zip us) := by
  have q := hb s us kx (by rw [List.append_nil]; exact hl)
  rwa [List.append_nil] at q

/-- f(e, ..) -/
theorem pe_cg (c : Cal X.prog X.w X.K X.mg X.base x k ps sp) (gd : X.A.guards = some []) (hr : Room k X.A) (hg : Gl X x) (ha : PA X (e :: es) t) (hdb : (x == ("__debug__" : Str)) = false := by decide)
    (he : starEach (e :: es) X.env = (false, eval e X.env) :: starEach es X.env := by rfl) (hpl : (backTo pos (starEach es X.env)).any (·.1) = false := by rfl) : PE X (.Call (.Name x p) (e :: es) [] pos) (tCall sp [] E0 t) := by
  obtain ⟨f, fd, F, hm, hk, hb⟩ := c.ex
  refine ⟨fun pins s σ H Q I h => wpAny_Call_Name_kw (ld_glob I hg hm ?_ hdb)⟩
  refine PySem.W.callWith_K (h₀ := X.base) I.mod.kin hk (thn (ha.run pos pins s σ H _ I h) ?_) he hpl
  rintro us s1 ⟨vs, H1, I1, r, q⟩
  have q' : sp vs H1 Q E0 := by
    have q0 := q
    rwa [List.append_nil] at q0
  have ln : us.length = ps.length := r.length.symm.trans (F.ln _ _ _ _ q')
  exact ⟨I1.kIn, PySem.wpAny_call (run_g F gd hr pass0 I1 (us := us) (binds_to hb I1.kIn ln) r q')⟩

/-- the method of that name stands at f -/
structure MethG (P : Program) (w : World) (K : PySem.W.Frag) (mg : Str → Option Value) (base : Heap) (C : Addr) (m : Str) (k : Nat) (ps : List Str) (sp : Sp) : Prop where
  ex : ∃ f fd, FG P w K mg base CX0 k f fd ps sp ∧ Meth K C m f ∧ Binds K fd ps []
/-- .. with keywords -/
structure MethK (P : Program) (w : World) (K : PySem.W.Frag) (mg : Str → Option Value) (base : Heap) (C : Addr) (m : Str) (k : Nat) (ps : List Str) (n : Nat) (ks : List Str) (g : {α : Type} → List α → List α → List α) (sp : Sp) : Prop where
  ex : ∃ f fd, FG P w K mg base CX0 k f fd ps sp ∧ Meth K C m f ∧ KB K fd ps n ks g

/-- o.m(e, ..), o an instance of the class at C -/
theorem pe_mg {pl : Sem Bool} (c : Cls X.K C) (M : MethG X.prog X.w X.K X.mg X.base C m k ps sp) (gd : X.A.guards = some []) (hr : Room k X.A) (he : PE X o ta) (ha : PA X (e :: es) t)
    (hst : starEach (e :: es) X.env = (false, eval e X.env) :: starEach es X.env := by rfl) (hpl : (backTo pos (starEach es X.env)).any (·.1) = false := by rfl)
    (ht : eval (.Call (.Attribute o m apos) (e :: es) [] pos) X.env = (eval o X.env >>= fun ov => standAt apos.atName >>= fun _ =>
      holding [ov] (getMethod ov m pl) >>= fun z => callWith pos z.1 z.2 (backTo pos (starEach (e :: es) X.env)) (backToKw pos (keywordEach [] X.env))) := by rfl) :
    PE X (.Call (.Attribute o m apos) (e :: es) [] pos) (tMeth C m sp [] E0 ta t) := by
  obtain ⟨f, fd, F, hm, hb⟩ := M.ex
  refine ⟨fun pins s σ H Q I h => PySem.W.methodCall_KW (pl := pl) (thn (he.run pins s σ H _ I h) ?_) ht⟩
  rintro u s1 ⟨y, H1, I1, rx, a, dx, fs, rfl, ea, l, q⟩
  cases rx
  refine getmeth_ok I1 ea c hm l (PySem.W.callWith_K (first := [.ref a]) (h₀ := X.base) I1.mod.kin hm.kp (thn (ha.run pos pins s1 σ H1 _ I1 q) ?_) hst hpl)
  rintro us s2 ⟨vs, H2, I2, r, q2⟩
  have q' : sp (.ref a :: vs) H2 Q E0 := by
    have q0 := q2
    rwa [List.append_nil] at q0
  have r' : Vals (V.ref a :: vs) (Value.ref a :: us) := .cons rfl r
  have ln : (Value.ref a :: us).length = ps.length := r'.length.symm.trans (F.ln _ _ _ _ q')
  exact ⟨I2.kIn, PySem.wpAny_call (run_g F gd hr pass0 I2 (us := .ref a :: us) (binds_to hb I2.kIn ln) r' q')⟩

/-- o.m(k = v, ..): the object, then the keywords' values; g puts them in the parameters' order -/
def tMethK (C : Addr) (m : Str) (nk : Nat) (g : List V → List V → List V) (sp : Sp) (ta : TE) (tk : TA) : TE := fun σ H Q => ta σ H fun x H1 => ∃ a dx fs, x = .ref a ∧ H1 a = some (.ins C dx fs) ∧ fs.lookup m = none ∧
  tk σ H1 fun zs H2 => zs.length = nk ∧ sp (g [x] zs) H2 Q E0
theorem pe_mgK {pl : Sem Bool} (c : Cls X.K C) (M : MethK X.prog X.w X.K X.mg X.base C m k ps 1 ks g sp) (gd : X.A.guards = some []) (hr : Room k X.A) (he : PE X o ta) (hkw : PK X kws tk)
    (hall : (backToKw pos (keywordEach kws X.env)).all (·.1.isSome) = true := by rfl) (hks : (backToKw pos (keywordEach kws X.env)).filterMap (·.1) = ks := by rfl)
    (hpl : ((backTo pos (starEach [] X.env)).any (·.1) || (backToKw pos (keywordEach kws X.env)).any (·.1.isNone)) = false := by rfl)
    (ht : eval (.Call (.Attribute o m apos) [] kws pos) X.env = (eval o X.env >>= fun ov => standAt apos.atName >>= fun _ =>
      holding [ov] (getMethod ov m pl) >>= fun z => callWith pos z.1 z.2 (backTo pos (starEach [] X.env)) (backToKw pos (keywordEach kws X.env))) := by rfl) :
    PE X (.Call (.Attribute o m apos) [] kws pos) (tMethK C m ks.length g sp ta tk) := by
  obtain ⟨f, fd, F, hm, hb⟩ := M.ex
  refine ⟨fun pins s σ H Q I h => PySem.W.methodCall_KW (pl := pl) (thn (he.run pins s σ H _ I h) ?_) ht⟩
  rintro u s1 ⟨y, H1, I1, rx, a, dx, fs, rfl, ea, l, q⟩
  cases rx
  refine getmeth_ok I1 ea c hm l (PySem.W.callWith_KW0 (first := [.ref a]) I1.mod.kin hm.kp hall (thn (hkw.run pos pins s1 σ H1 _ I1 q) ?_) hpl)
  rintro ws s2 ⟨zs, H2, I2, rz, lz, q2⟩
  rw [hks]
  have r0 : Vals [V.ref a] [Value.ref a] := .cons rfl .nil
  exact ⟨I2.kIn, PySem.wpAny_call (run_g F gd hr pass0 I2 (hb.ar s2 [.ref a] ws rfl (by rw [← rz.length, lz])) (hb.re r0 rz) q2)⟩

/-- what makes an instance: C's __init__ stands at f -/
structure MkG (P : Program) (w : World) (K : PySem.W.Frag) (mg : Str → Option Value) (base : Heap) (CX : CXT) (x : Str) (C : Addr) (k : Nat) (ps : List Str) (sp : Sp) : Prop where
  ex : ∃ f fd, FG P w K mg base CX k f fd ps sp ∧ Mk K C f ∧ mg x = some (.ref C) ∧ Binds K fd ps []
structure MkK (P : Program) (w : World) (K : PySem.W.Frag) (mg : Str → Option Value) (base : Heap) (CX : CXT) (x : Str) (C : Addr) (k : Nat) (ps : List Str) (ks : List Str) (g : {α : Type} → List α → List α → List α) (sp : Sp) : Prop where
  ex : ∃ f fd, FG P w K mg base CX k f fd ps sp ∧ Mk K C f ∧ mg x = some (.ref C) ∧ KB K fd ps 1 ks g
theorem guards_make {A : Around} {C : Addr} {us : List Value} {kw : List (Str × Value)} (h : A.guards = some []) : (A.under (.builtin "type.__call__" ⟨.ref C :: us, kw⟩)).guards = some [] := by
  have e0 : guardIds.contains "type.__call__" = false := by decide +kernel
  have e : (Code.builtin "type.__call__" ⟨.ref C :: us, kw⟩).guards = [] := by
    unfold Code.guards
    rw [show (Code.builtin "type.__call__" ⟨.ref C :: us, kw⟩).isGuard = false from e0]
    rfl
  have z : (A.under (.builtin "type.__call__" ⟨.ref C :: us, kw⟩)).guards = pushGuards (Code.builtin "type.__call__" ⟨.ref C :: us, kw⟩).guards A.guards := by
    first | rfl | simp [Around.under]
  rw [z, e]
  exact h
/-- the instance made, its __init__ run -/
theorem run_mk {pins : List (Addr × Obj)} {σ : L2.St} {H : Hp} {s : Shared} {Q : VK} (M : Mk X.K C f) (F : FG X.prog X.w X.K X.mg X.base CX k f fd ps sp) (gd : X.A.guards = some []) (hr : Room (k + 1) X.A) (hx : Passes CX X E) (I : Inv X pins σ H s)
    {us : List Value} {kw : List (Str × Value)} {all : Value → List Value} {vs : V → List V}
    (hb : ∀ (s' : Shared) (x : Addr), X.K.In s'.heap → (all (.ref x)).length = ps.length → BindsTo s' fd ⟨.ref x :: us, kw⟩ (ps.zip (all (.ref x)))) (r : ∀ x : Addr, Vals (vs (.ref x)) (all (.ref x)))
    (h : ∀ x dx, H x = none → H dx = none → dx ≠ x → sp (vs (.ref x)) (upd (upd H dx (.own x)) x (.ins C dx [])) (fun v H2 => v = .non ∧ Q (.ref x) H2) E) :
    wpAny (model X.prog X.w) X.A (call (.ref C) us kw) (EP X pins σ Q) X.xe s := by
  have fr : ∀ a, s.heap.objs.size ≤ a → H a = none := fun a ha => I.hok.fresh ha
  have q := h (s.heap.objs.size + 1) s.heap.objs.size (fr _ (Nat.le_succ _)) (fr _ (Nat.le_refl _)) (Nat.ne_of_lt (Nat.lt_succ_self _))
  have J := Inv.made (C := C) I
  have ln : (all (.ref (s.heap.objs.size + 1))).length = ps.length := by
    rw [← (r _).length]
    exact F.ln _ _ _ _ q
  have run := F.go _ (guards_make (C := C) (us := us) (kw := kw) gd) X.stack _ _ _ _ _ _ E (hr.make C us kw) (J.env0.make C us kw) (hb _ _ J.kIn ln) (r _) q
  refine PySem.wpAny_call (make_map (f := f) I.kIn M.makes M.init (beq_iff_eq.mp M.fn) (codeAny_mono run fun z s' hz => ?_))
  cases z with
  | error e => exact hx pins σ _ _ e s' J hz
  | ok fl =>
    cases fl with
    | ret u =>
      obtain ⟨v, H', J', rv, rfl, qv⟩ := J.after hz
      exact ⟨rv, .ref (s.heap.objs.size + 1), H', J', rfl, qv⟩
    | next => exact hz.elim
    | brk => exact hz.elim
    | cont => exact hz.elim
/-- C(e, ..) -/
theorem pe_kg (M : MkG X.prog X.w X.K X.mg X.base CX x C k ps sp) (gd : X.A.guards = some []) (hr : Room (k + 1) X.A) (hx : Passes CX X E) (hg : Gl X x) (ha : PA X (e :: es) t) (hdb : (x == ("__debug__" : Str)) = false := by decide)
    (he : starEach (e :: es) X.env = (false, eval e X.env) :: starEach es X.env := by rfl) (hpl : (backTo pos (starEach es X.env)).any (·.1) = false := by rfl) : PE X (.Call (.Name x p) (e :: es) [] pos) (tMake C sp [] E t) := by
  obtain ⟨f, fd, F, mk, hm, hb⟩ := M.ex
  refine ⟨fun pins s σ H Q I h => wpAny_Call_Name_kw (ld_glob I hg hm ?_ hdb)⟩
  refine PySem.W.callWith_K (h₀ := X.base) I.mod.kin mk.kp (thn (ha.run pos pins s σ H _ I h) ?_) he hpl
  rintro us s1 ⟨vs, H1, I1, r, q⟩
  refine ⟨I1.kIn, run_mk mk F gd hr hx I1 (all := fun y => y :: us) (vs := fun y => y :: vs) (fun s' y kx ln => binds_to hb kx ln) (fun y => .cons rfl r) fun y dy h1 h2 h3 => ?_⟩
  have q0 := q y dy h1 h2 h3
  rwa [List.append_nil] at q0
/-- C(k = v, ..) -/
def tMakeKw (C : Addr) (nk : Nat) (g : List V → List V → List V) (sp : Sp) (E : XK) (tk : TA) : TE := fun σ H Q => tk σ H fun zs H1 => zs.length = nk ∧ ∀ x dx, H1 x = none → H1 dx = none → dx ≠ x →
  sp (g [.ref x] zs) (upd (upd H1 dx (.own x)) x (.ins C dx [])) (fun v H2 => v = .non ∧ Q (.ref x) H2) E
theorem pe_kgK (M : MkK X.prog X.w X.K X.mg X.base CX x C k ps ks g sp) (gd : X.A.guards = some []) (hr : Room (k + 1) X.A) (hx : Passes CX X E) (hg : Gl X x) (hkw : PK X kws tk)
    (hdb : (x == ("__debug__" : Str)) = false := by decide)
    (hall : (backToKw pos (keywordEach kws X.env)).all (·.1.isSome) = true := by rfl) (hks : (backToKw pos (keywordEach kws X.env)).filterMap (·.1) = ks := by rfl)
    (hpl : ((backTo pos (starEach [] X.env)).any (·.1) || (backToKw pos (keywordEach kws X.env)).any (·.1.isNone)) = false := by rfl) :
    PE X (.Call (.Name x p) [] kws pos) (tMakeKw C ks.length g sp E tk) := by
  obtain ⟨f, fd, F, mk, hm, hb⟩ := M.ex
  refine ⟨fun pins s σ H Q I h => wpAny_Call_Name_kw (ld_glob I hg hm ?_ hdb)⟩
  refine PySem.W.callWith_KW0 (h₀ := X.base) I.mod.kin mk.kp hall (thn (hkw.run pos pins s σ H _ I h) ?_) hpl
  rintro ws s1 ⟨zs, H1, I1, rz, lz, q⟩
  rw [hks]
  refine ⟨I1.kIn, run_mk mk F gd hr hx I1 (us := []) (all := fun y => g [y] ws) (vs := fun y => g [y] zs) (fun s' y kx ln => hb.ar s' [.ref y] ws rfl (by rw [← rz.length, lz])) (fun y => ?_) q⟩
  have r0 : Vals [V.ref y] [Value.ref y] := .cons rfl .nil
  exact hb.re r0 rz

/-- a property of the class at C whose getter is a def of the text -/
structure PropG (P : Program) (w : World) (K : PySem.W.Frag) (mg : Str → Option Value) (base : Heap) (C : Addr) (m : Str) (k : Nat) (sp : Sp) : Prop where
  ex : ∃ p f fd, FnOk P w K mg base CX0 k f fd ["self"] sp ∧ PropOf K C m p f ∧ Binds K fd ["self"] []
theorem pe_pg (c : Cls X.K C) (M : PropG X.prog X.w X.K X.mg X.base C m k sp) (hr : Room (k + 1) X.A) (he : PE X e ta) (hab : attributeBase e m X.env (eval e X.env) = eval e X.env := by rfl) : PE X (.Attribute e m pos) (tProp C sp [] E0 ta) := by
  obtain ⟨p, f, fd, F, hp, hb⟩ := M.ex
  exact pe_prop he c hp F hr hb .nil pass0 hab
end

/-! ### repr of data -/
section
variable {X : Cx}
/-- repr(x), x of None, bools, ints, texts, lists, tuples -/
def rReprD (K : PySem.W.Frag) : List V → Hp → VK → Prop := fun xs H Q => ∃ x d, xs = [x] ∧ Dp K H x d ∧ d.showable = true ∧ d.hasDict = false ∧ d.depth ≤ 40 ∧ d.shown.length ≤ sizeLine ∧ Q (.str d.shown) H
theorem call_reprD {k : Nat} (gd : X.A.guards = some []) (hr : Room k X.A) : CallR X (.builtin "repr") (rReprD X.K) := by
  intro pins s σ H xs us Q I r h
  obtain ⟨x, d, rfl, hd, sh, nd, dp, sz, q⟩ := h
  obtain ⟨u, rfl, ru⟩ := vals1 r
  obtain ⟨as, rd⟩ := Dp.reads I d x u hd ru
  have un := hr.units
  have fin : ∀ h' tk t, (∀ b o, s.heap.get? b = some o → h'.get? b = some o) → EP X pins σ Q (.str d.shown t) { s with heap := h', toks := tk } :=
    fun h' tk t kp => ⟨.str d.shown, H, I.kept kp, ⟨t, rfl⟩, q⟩
  cases hd with
  | non =>
    cases ru
    exact PySem.P.repr_of_none (fin s.heap _ _ fun _ _ e => e)
  | bl b =>
    cases ru
    exact PySem.P.repr_of_bool (fin s.heap _ _ fun _ _ e => e)
  | int i =>
    obtain ⟨t, rfl⟩ := ru
    exact PySem.P.repr_of_int (by simpa [PyData.showable] using sh) (fin s.heap _ _ fun _ _ e => e)
  | str z =>
    obtain ⟨t, rfl⟩ := ru
    exact PySem.P.repr_of_str (fin s.heap _ _ fun _ _ e => e) (by simpa only [PyData.shown] using sz)
  | lst h1 h2 =>
    cases ru
    exact repr_of_reads' rd sh (fun z => by rw [nd] at z; cases z) gd (by omega) (fun _ _ e => e) (fun h' u tk kp => fin h' tk u kp) sz
  | tup h1 h2 =>
    cases ru
    exact repr_of_reads' rd sh (fun z => by rw [nd] at z; cases z) gd (by omega) (fun _ _ e => e) (fun h' u tk kp => fin h' tk u kp) sz
end
end G
set_option Elab.async false
set_option linter.all false
namespace G
open PySem PySem.Spec PyProof.Rows L2
section
variable {prog : Program} {w : World} {A : Around} {E : Value → Shared → Prop} {s : Shared} {K : PySem.W.Frag} {x C : Addr} {ox : Obj} {od : Option Obj}
/-- a built-in special method, found on the instance's class -/
theorem bound_slot {M : Model} {name : Str} {id : String} {args : List Value} {Q : Option Value → Shared → Prop} (X : K.In s.heap) (I : PySem.W.InstAt s.heap x ox C od) (hs : PySem.W.findIn K (.ref C) name = some (some (.builtin id)))
    (hb : ∀ self, bindSpecial (.builtin id) self = pure (.builtin id, [self])) (h : wpAny M A (call (.builtin id) (.ref x :: args)) (fun v => Q (some v)) E s) : wpAny M A (callSpecialIfBound? (.ref x) name args) Q E s := by
  have fin : wpAny M A (call (.builtin id) ([.ref x] ++ args) >>= fun v => pure (some v)) Q E s := wpAny_bind (wpAny_mono h (fun v s' z => wpAny_pure z) fun _ _ z => z)
  have lk : PySem.W.Looks M s.heap (bindSpecial (.builtin id) (.ref x)) (.builtin id, [.ref x]) := PySem.W.Looks.of_pure (hb _)
  simp only [callSpecialIfBound?, bindSpecialIfBound?]
  refine wpAny_holding (wpAny_bind (wpAny_bind (wpAny_bind (I.type.here ((PySem.W.looks_findIn X hs).here (wpAny_bind (wpAny_askSetting (wpAny_ite ?_))))))))
  split
  · exact wpAny_bind (lk.here (wpAny_pure (by exact fin)))
  · exact wpAny_tryCatch (wpAny_bind (lk.here (wpAny_pure (by exact fin))))
/-- object.__ne__ where the class has an own __eq__ -/
theorem obj_ne {f : Addr} {b : Value} {Q : Value → Shared → Prop} (hu : A.in1.units < cLine) (X : K.In s.heap) (I : PySem.W.InstAt s.heap x ox C od) (hm : PySem.W.mroIn K C (.type "object") = some true)
    (he : PySem.W.findIn K (.ref C) "__eq__" = some (some (.ref f))) (hf : PySem.W.isFn K (.ref f) = true)
    (h : wpAny (model prog w) A.in1 (call (.ref f) [.ref x, b]) (fun v s' => ∃ k, v = .bool k ∧ Q (.bool (!k)) s') E s) : wpAny (model prog w) A (call (.builtin "object.__ne__") [.ref x, b]) Q E s := by
  refine PySem.wpAny_call (codeAny_call_builtin (by decide +kernel) PySem.F.cmpEntry_ne (PySem.W.check_slot (i := "object.__ne__") (owner := "object") (n := "__ne__") (by decide +kernel) (by decide +kernel) (I.type.andThen (PySem.W.looks_mroIn X hm)) (PySem.F.cmpArgs_ne _ _) ?_))
  unfold Builtin.«object.__ne__»
  refine wpAny_bind (m := slotArgs "__ne__" 1 _) (wpAny_pure ?_)
  refine wpAny_bind (m := cRoomFor _ _) (wpAny_cRoomFor hu ?_)
  refine wpAny_bind (m := callSpecialIfBound? (.ref x) (Str.ofString "__eq__") [b]) (PySem.W.ifBound_K X I he hf (wpAny_mono h (fun v s' hv => ?_) fun _ _ z => z))
  obtain ⟨k, rfl, hq⟩ := hv
  refine wpAny_bind (m := truthy (.bool k)) (wpAny_truthy_bool ?_)
  exact wpAny_pure hq
/-- x != b, tried on an instance with an own __eq__ -/
theorem try_ne {f : Addr} {b : Value} {Q : Option Value → Shared → Prop} (hu : A.in1.units < cLine) (X : K.In s.heap) (I : PySem.W.InstAt s.heap x ox C od) (hm : PySem.W.mroIn K C (.type "object") = some true)
    (hn : PySem.W.findIn K (.ref C) "__ne__" = some (some (.builtin "object.__ne__"))) (he : PySem.W.findIn K (.ref C) "__eq__" = some (some (.ref f))) (hf : PySem.W.isFn K (.ref f) = true)
    (h : wpAny (model prog w) A.in1 (call (.ref f) [.ref x, b]) (fun v s' => ∃ k, v = .bool k ∧ Q (some (.bool (!k))) s') E s) : wpAny (model prog w) A (tryCompare (.ref x) "__ne__" b) Q E s := by
  unfold tryCompare
  refine wpAny_bind (bound_slot X I hn (fun self => rfl) (obj_ne hu X I hm he hf (wpAny_mono h (fun v s' hv => ?_) fun _ _ z => z)))
  obtain ⟨k, rfl, hq⟩ := hv
  exact ⟨k, rfl, wpAny_pure hq⟩
/-- x != b, x such an instance, b of another type that does not come first -/
theorem rc_ne_left {f : Addr} {b tb : Value} {Q : Value → Shared → Prop} (hu : A.in1.units < cLine) (X : K.In s.heap) (I : PySem.W.InstAt s.heap x ox C od) (hb : PySem.W.Looks (model prog w) s.heap (typeOf b) tb) (ht : PySem.W.notFirst K C tb = true)
    (hm : PySem.W.mroIn K C (.type "object") = some true) (hn : PySem.W.findIn K (.ref C) "__ne__" = some (some (.builtin "object.__ne__"))) (he : PySem.W.findIn K (.ref C) "__eq__" = some (some (.ref f))) (hf : PySem.W.isFn K (.ref f) = true)
    (h : wpAny (model prog w) A.in1 (call (.ref f) [.ref x, b]) (fun v s' => ∃ k, v = .bool k ∧ Q (.bool (!k)) s') E s) : wpAny (model prog w) A (richCompare .NotEq (.ref x) b) Q E s := by
  have u0 : A.units < cLine := Nat.lt_of_succ_lt (show A.units + 1 < cLine from hu)
  have one : wpAny (model prog w) A (tryCompare (.ref x) "__ne__" b) (fun r s' => ∃ v, r = some v ∧ Q v s') E s := try_ne hu X I hm hn he hf (wpAny_mono h (fun v s' hv => by
    obtain ⟨k, rfl, hq⟩ := hv
    exact ⟨k, rfl, _, rfl, hq⟩) fun _ _ z => z)
  unfold richCompare
  simp only [oneThing_ref]
  refine wpAny_holding (wpAny_bind (wpAny_cRoomFor u0 (wpAny_bind (I.type.here (wpAny_bind (hb.here ?_))))))
  split
  · rename_i q
    have e : PySem.W.subIn K tb (.ref C) = some false := (Bool.or_eq_true_iff.mp ht).elim (fun e => absurd q (by rw [beq_iff_eq.mp e]; simp)) fun e => beq_iff_eq.mp e
    refine wpAny_bind ((PySem.W.looks_subIn X e).here ?_)
    simp only [Bool.false_eq_true, if_false]
    refine wpAny_bind (wpAny_mono one (fun r s' z => ?_) fun _ _ z => z)
    obtain ⟨v, rfl, hq⟩ := z
    exact wpAny_pure hq
  · refine wpAny_bind (wpAny_pure ?_)
    simp only [Bool.false_eq_true, if_false]
    refine wpAny_bind (wpAny_mono one (fun r s' z => ?_) fun _ _ z => z)
    obtain ⟨v, rfl, hq⟩ := z
    exact wpAny_pure hq
end

section
variable {X : Cx} {k : Nat} {C : Addr} {ps : List Str} {sp : Sp}
/-- what an own == at the class C wants to be asked -/
structure EqG (P : Program) (w : World) (K : PySem.W.Frag) (mg : Str → Option Value) (base : Heap) (C : Addr) (k : Nat) (sp : Sp) : Prop where
  ex : ∃ f fd, FG P w K mg base CX0 k f fd ["self", "other"] sp ∧ PySem.W.findIn K (.ref C) "__eq__" = some (some (.ref f)) ∧ PySem.W.isFn K (.ref f) = true ∧ Binds K fd ["self", "other"] []
/-- .. and what stands for != -/
structure NeC (K : PySem.W.Frag) (C : Addr) : Prop where
  ne : PySem.W.findIn K (.ref C) "__ne__" = some (some (.builtin "object.__ne__"))
  mro : PySem.W.mroIn K C (.type "object") = some true
def rEqOwn (K : PySem.W.Frag) (C : Addr) (sp : Sp) : R2 := fun x y H Q => ∃ a dx fs tb, x = .ref a ∧ H a = some (.ins C dx fs) ∧ TyX K H y tb ∧ PySem.W.notFirst K C tb = true ∧ sp [x, y] H Q E0
def rNeOwn (K : PySem.W.Frag) (C : Addr) (sp : Sp) : R2 := fun x y H Q => ∃ a dx fs tb, x = .ref a ∧ H a = some (.ins C dx fs) ∧ TyX K H y tb ∧ PySem.W.notFirst K C tb = true ∧ sp [x, y] H (fun v H' => ∃ k, v = .bl k ∧ Q (.bl (!k)) H') E0
theorem noNI {v : V} {u : Value} (r : RelV v u) {Q : Value → Shared → Prop} {s : Shared} (q : Q u s) : PySem.W.CmpBack Q u s := by
  cases v with
  | non => cases r; exact q
  | bl b => cases r; exact q
  | int i => obtain ⟨t, rfl⟩ := r; exact q
  | str i => obtain ⟨t, rfl⟩ := r; exact q
  | byt i => obtain ⟨t, rfl⟩ := r; exact q
  | flt i => obtain ⟨t, rfl⟩ := r; exact q
  | ref a => cases r; exact q
  | ty n => cases r; exact q
theorem op_eqOwn (M : EqG X.prog X.w X.K X.mg X.base C k sp) (gd : X.A.guards = some []) (hr : Room k X.A) : OpR X (compareOp .Eq) (rEqOwn X.K C sp) := by
  intro pins s σ H x y v u Q I rx ry h
  obtain ⟨f, fd, F, he, hf, hb⟩ := M.ex
  obtain ⟨a, dx, fs, tb, rfl, ha, ty, nf, q⟩ := h
  cases rx
  obtain ⟨mA, J, _⟩ := ins_get I.hok ha
  obtain ⟨od, J, _⟩ := J.look
  obtain ⟨P, kit, hP, _⟩ := kit_of I ry ty
  obtain ⟨m, fr⟩ := I.fr
  refine PySem.W.cmp_K (op := .Eq) hr.units0 fr I.mod.kin J (kit.ty _ _ I.kIn hP) nf he hf (PySem.wpAny_call (codeAny_mono (run_g F gd hr pass0 I (us := [.ref a, u]) (vs := [.ref a, y]) (binds_to hb I.kIn rfl) (.cons rfl (.cons ry .nil)) q) fun r s' hq => ?_))
  cases r with
  | error e => exact hq
  | ok fl =>
    cases fl with
    | ret z =>
      obtain ⟨v', H', I', rv, q'⟩ := hq
      exact noNI (Q := EP X pins σ Q) rv ⟨v', H', I', rv, q'⟩
    | next => exact hq
    | brk => exact hq
    | cont => exact hq
theorem in1_guards {A : Around} (h : A.guards = some []) : A.in1.guards = some [] := h
/-- a callee one step below -/
theorem run_in1 {pins : List (Addr × Obj)} {σ : L2.St} {H : Hp} {s : Shared} {Q : VK} {f : Addr} {fd : FuncData} (F : FG X.prog X.w X.K X.mg X.base CX0 k f fd ps sp) (gd : X.A.guards = some []) (hr : Room (k + 1) X.A) (I : Inv X pins σ H s) {args : Args} {us : List Value} {vs : List V}
    (hb : BindsTo s fd args (ps.zip us)) (r : Vals vs us) (h : sp vs H Q E0) : codeAny (model X.prog X.w) X.A.in1 (.call (.ref f) args) (wants (EP X pins σ Q) X.xe) s :=
  codeAny_mono (F.go X.A.in1 gd X.stack s H args us vs Q E0 hr.in1 I.env0.in1 hb r h) fun _ _ hq => back_of pass0 I hq
theorem op_neOwn (M : EqG X.prog X.w X.K X.mg X.base C k sp) (N : NeC X.K C) (gd : X.A.guards = some []) (hr : Room (k + 1) X.A) : OpR X (compareOp .NotEq) (rNeOwn X.K C sp) := by
  intro pins s σ H x y v u Q I rx ry h
  obtain ⟨f, fd, F, he, hf, hb⟩ := M.ex
  obtain ⟨a, dx, fs, tb, rfl, ha, ty, nf, q⟩ := h
  cases rx
  obtain ⟨mA, J, _⟩ := ins_get I.hok ha
  obtain ⟨od, J, _⟩ := J.look
  obtain ⟨P, kit, hP, _⟩ := kit_of I ry ty
  refine rc_ne_left (hr.in1.units0) I.kIn J (kit.ty _ _ I.kIn hP) nf N.mro N.ne he hf (PySem.wpAny_call (codeAny_mono (run_in1 F gd hr I (us := [.ref a, u]) (vs := [.ref a, y]) (binds_to hb I.kIn rfl) (.cons rfl (.cons ry .nil)) q) fun r s' hq => ?_))
  cases r with
  | error e => exact hq
  | ok fl =>
    cases fl with
    | ret z =>
      obtain ⟨v', H', I', rv, k, rfl, q'⟩ := hq
      cases rv
      exact ⟨k, rfl, .bl (!k), H', I', rfl, q'⟩
    | next => exact hq
    | brk => exact hq
    | cont => exact hq
/-- repr(o), o with an own __repr__ that hands back a text -/
structure ReG (P : Program) (w : World) (K : PySem.W.Frag) (mg : Str → Option Value) (base : Heap) (C : Addr) (k : Nat) (sp : Sp) : Prop where
  ex : ∃ f fd, FG P w K mg base CX0 k f fd ["self"] sp ∧ PySem.W.findIn K (.ref C) "__repr__" = some (some (.ref f)) ∧ PySem.W.isFn K (.ref f) = true ∧ Binds K fd ["self"] []
def rReprOwn (C : Addr) (sp : Sp) : List V → Hp → VK → Prop := fun xs H Q => ∃ a dx fs, xs = [.ref a] ∧ H a = some (.ins C dx fs) ∧ sp xs H (fun v H' => ∃ z, v = .str z ∧ Q v H') E0
theorem call_reprOwn (M : ReG X.prog X.w X.K X.mg X.base C k sp) (gd : X.A.guards = some []) (hr : Room (k + 1) X.A) : CallR X (.builtin "repr") (rReprOwn C sp) := by
  intro pins s σ H xs us Q I r h
  obtain ⟨f, fd, F, he, hf, hb⟩ := M.ex
  obtain ⟨a, dx, fs, rfl, ha, q⟩ := h
  obtain rfl := Vals.ref1 r
  obtain ⟨mA, J, _⟩ := ins_get I.hok ha
  obtain ⟨od, J, _⟩ := J.look
  obtain ⟨m, fr⟩ := I.fr
  refine PySem.W.repr_K (hr.in1.units0) fr I.mod.kin J he hf (PySem.wpAny_call (codeAny_mono (run_in1 F gd hr I (us := [.ref a]) (vs := [.ref a]) (binds_to hb I.kIn rfl) (.cons rfl .nil) q) fun r s' hq => ?_))
  cases r with
  | error e => exact hq
  | ok fl =>
    cases fl with
    | ret z =>
      obtain ⟨v', H', I', rv, y, rfl, q'⟩ := hq
      obtain ⟨t, rfl⟩ := rv
      exact ⟨.str y, H', I', ⟨t, rfl⟩, q'⟩
    | next => exact hq
    | brk => exact hq
    | cont => exact hq
end
end G
set_option Elab.async false
set_option linter.all false
namespace G
open PySem PySem.Spec PyProof.Rows L2
section
open PySem.Sem (wp)
/-- bool(o), o an instance without __bool__ and __len__ -/
theorem meets_bool_inst {K : PySem.W.Frag} {x C : Addr} {ox : Obj} {od : Option Obj} (h1 : PySem.W.findIn K (.ref C) "__bool__" = some none) (h2 : PySem.W.findIn K (.ref C) "__len__" = some none) :
    Meets (Builtin.«bool.__new__» ⟨[.type "bool", .ref x], []⟩) (fun _ R s => (K.In s.heap ∧ PySem.W.InstAt s.heap x ox C od) ∧ ∀ tk, R (.ok (.ret (.bool true))) { s with toks := tk }) :=
  Meets.of_wp fun prog w A R s hs => by
    obtain ⟨hp, g, d, tk, os⟩ := s
    obtain ⟨⟨hK, hI⟩, hq⟩ := hs
    have hK : K.In hp := hK
    have hI : PySem.W.InstAt hp x ox C od := hI
    have tr : ∀ (tk : Nat) (A' : Around) (E' : Value → Shared → Prop) (Q' : Bool → Shared → Prop), Q' true ⟨hp, g, d, tk, os⟩ → wpAny (model prog w) A' (truthy (.ref x)) Q' E' ⟨hp, g, d, tk, os⟩ := by
      intro tk A' E' Q' q
      unfold truthy
      refine wpAny_bind (m := callSpecial? (.ref x) (Str.ofString "__bool__")) (wpAny_bind (wpAny_bind (hI.type.at ((PySem.W.looks_findIn hK h1).at (wpAny_pure ?_)))))
      refine wpAny_bind (wpAny_bind (hI.type.at ((PySem.W.looks_findIn hK h2).at ?_)))
      exact wpAny_pure q
    have f1 := F.conv_sub_bool
    repeat (any_goals (first | assumption | (with_reducible refine tr _ _ _ _ ?_) | wp_step))
    all_goals first | exact ⟨_, rfl, hq _⟩ | exact hq _ | skip
end
section
variable {X : Cx} {x : Str} {p pos : Pos} {C : Addr}
theorem call_boolI (h1 : PySem.W.findIn X.K (.ref C) "__bool__" = some none) (h2 : PySem.W.findIn X.K (.ref C) "__len__" = some none) :
    CallR X (.type "bool") (fun xs H Q => ∃ a dx fs, xs = [.ref a] ∧ H a = some (.ins C dx fs) ∧ Q (.bl true) H) := by
  intro pins s σ H xs us Q I r h
  obtain ⟨a, dx, fs, rfl, ha, q⟩ := h
  obtain rfl := Vals.ref1 r
  obtain ⟨mA, J, _⟩ := ins_get I.hok ha
  obtain ⟨od, J, _⟩ := J.look
  exact call_bool_1 (meets_bool_inst (ox := _) (od := some od) h1 h2) ⟨⟨I.kIn, J⟩, fun tk => ⟨rfl, .bl true, H, I.tok tk, rfl, q⟩⟩
/-- C() where C has no __init__ of its own -/
structure Mk0 (K : PySem.W.Frag) (mg : Str → Option Value) (x : Str) (C : Addr) : Prop where
  nm : mg x = some (.ref C)
  makes : PySem.W.makesIn K C = true
  init : PySem.W.findIn K (.ref C) "__init__" = some (some (.builtin "object.__init__"))
  top : PySem.W.mroIn K C (.type "object") = some true
  kp : PySem.W.keepIn K (.ref C) = true
def tMk0 (C : Addr) : TE := fun _ H Q => ∀ x dx, H x = none → H dx = none → dx ≠ x → Q (.ref x) (upd (upd H dx (.own x)) x (.ins C dx []))
theorem pe_mk0 (M : Mk0 X.K X.mg x C) (hg : Gl X x) (hdb : (x == ("__debug__" : Str)) = false := by decide) : PE X (.Call (.Name x p) [] [] pos) (tMk0 C) := by
  refine ⟨fun pins s σ H Q I h => wpAny_Call_Name_kw (ld_glob I hg M.nm ?_ hdb)⟩
  refine PySem.W.callWith_K0 I.kIn M.kp ?_
  have q := h (s.heap.objs.size + 1) s.heap.objs.size (I.hok.fresh (Nat.le_succ _)) (I.hok.fresh (Nat.le_refl _)) (Nat.ne_of_lt (Nat.lt_succ_self _))
  have J := Inv.made (C := C) I
  refine PySem.wpAny_call (make_map0 I.kIn M.makes M.init (fun self => PySem.W.Looks.of_pure (PySem.W.oi_bind self)) ?_)
  have kx : X.K.In ((s.heap.push PySem.W.emptyDict).push (PySem.W.instObj C s.heap.objs.size)) := J.kIn
  have hx : ((s.heap.push PySem.W.emptyDict).push (PySem.W.instObj C s.heap.objs.size)).get? (s.heap.objs.size + 1) = some (PySem.W.instObj C s.heap.objs.size) := by
    rw [← Heap.size_push s.heap PySem.W.emptyDict]
    exact Heap.get?_push_size _ rfl
  have t1 : PySem.W.Looks (model X.prog X.w) ((s.heap.push PySem.W.emptyDict).push (PySem.W.instObj C s.heap.objs.size)) (typeOf (.ref (s.heap.objs.size + 1))) (.ref C) := (PySem.W.Looks.ld hx).andThen .now
  refine codeAny_call_builtin PySem.W.oi_plain PySem.W.entry_oi (PySem.W.check_slot (owner := "object") (n := "__init__") PySem.W.oi_kind PySem.W.oi_split (t1.andThen (PySem.W.looks_mroIn kx M.top)) (PySem.W.oi_args _) ?_)
  rw [PySem.W.oi_run]
  exact wpAny_pure ⟨rfl, .ref (s.heap.objs.size + 1), _, J, rfl, q⟩
end
end G
set_option Elab.async false
set_option linter.all false
namespace G
open PySem PySem.Spec PyProof.Rows L2
section
variable {X : Cx} {pos : Pos} {k : Nat} {a b : Expr} {ta tb : TE}
theorem pe_eqD (hr : Room k X.A) (ha : PE X a ta) (hb : PE X b tb) : PE X (.Compare a [.Eq] [b] pos) (tOp (rEqD X.K) ta tb) := pe_cmpR (op_eqD hr.units) ha hb (nomark _)
theorem pt_eqD (hr : Room k X.A) (ha : PE X a ta) (hb : PE X b tb) : PT X (.Compare a [.Eq] [b] pos) (tTest (tOp (rEqD X.K) ta tb)) := pt_cmpR (op_eqD hr.units) ha hb (nomark _)
theorem pe_neD (hr : Room k X.A) (ha : PE X a ta) (hb : PE X b tb) : PE X (.Compare a [.NotEq] [b] pos) (tOp (rNeD X.K) ta tb) := pe_cmpR (op_neD hr.units) ha hb (nomark _)
theorem pt_neD (hr : Room k X.A) (ha : PE X a ta) (hb : PE X b tb) : PT X (.Compare a [.NotEq] [b] pos) (tTest (tOp (rNeD X.K) ta tb)) := pt_cmpR (op_neD hr.units) ha hb (nomark _)
theorem pe_eqS (ha : PE X a ta) (hb : PE X b tb) : PE X (.Compare a [.Eq] [b] pos) (tOp rEq ta tb) := pe_cmpR op_eq ha hb (nomark _)
theorem pt_eqS (ha : PE X a ta) (hb : PE X b tb) : PT X (.Compare a [.Eq] [b] pos) (tTest (tOp rEq ta tb)) := pt_cmpR op_eq ha hb (nomark _)
theorem pe_neS (ha : PE X a ta) (hb : PE X b tb) : PE X (.Compare a [.NotEq] [b] pos) (tOp rNe ta tb) := pe_cmpR op_ne ha hb (nomark _)
theorem pt_neS (ha : PE X a ta) (hb : PE X b tb) : PT X (.Compare a [.NotEq] [b] pos) (tTest (tOp rNe ta tb)) := pt_cmpR op_ne ha hb (nomark _)
theorem pe_ixL (K : PySem.W.Frag) (ha : PE X a ta) (hb : PE X b tb) (hs : PlainIx b := by exact fun _ _ => rfl) (hK : X.K = K := by rfl) : PE X (.Subscript a b pos) (tOp (rIxL K) ta tb) := by
  subst hK
  exact pe_ix ix_list ha hb hs
theorem pe_ixT (K : PySem.W.Frag) (ha : PE X a ta) (hb : PE X b tb) (hs : PlainIx b := by exact fun _ _ => rfl) (hK : X.K = K := by rfl) : PE X (.Subscript a b pos) (tOp (rIxT K) ta tb) := by
  subst hK
  exact pe_ix ix_tup ha hb hs
/-- == and != of own instances; K is said, for a comprehension's reading may not hang on its frame -/
theorem pe_eqOwn {K : PySem.W.Frag} {C : Addr} {j : Nat} {sp : Sp} (M : EqG X.prog X.w K X.mg X.base C j sp) (gd : X.A.guards = some []) (hr : Room k X.A) (ha : PE X a ta) (hb : PE X b tb) (hj : j ≤ k := by decide) (hK : X.K = K := by rfl) :
    PE X (.Compare a [.Eq] [b] pos) (tOp (rEqOwn K C sp) ta tb) := by
  subst hK
  exact pe_cmpR (op_eqOwn M gd (hr.mono hj)) ha hb (nomark _)
theorem pt_eqOwn {K : PySem.W.Frag} {C : Addr} {j : Nat} {sp : Sp} (M : EqG X.prog X.w K X.mg X.base C j sp) (gd : X.A.guards = some []) (hr : Room k X.A) (ha : PE X a ta) (hb : PE X b tb) (hj : j ≤ k := by decide) (hK : X.K = K := by rfl) :
    PT X (.Compare a [.Eq] [b] pos) (tTest (tOp (rEqOwn K C sp) ta tb)) := by
  subst hK
  exact pt_cmpR (op_eqOwn M gd (hr.mono hj)) ha hb (nomark _)
theorem pe_neOwn {K : PySem.W.Frag} {C : Addr} {j : Nat} {sp : Sp} (M : EqG X.prog X.w K X.mg X.base C j sp) (N : NeC K C) (gd : X.A.guards = some []) (hr : Room k X.A) (ha : PE X a ta) (hb : PE X b tb) (hj : j + 1 ≤ k := by decide) (hK : X.K = K := by rfl) :
    PE X (.Compare a [.NotEq] [b] pos) (tOp (rNeOwn K C sp) ta tb) := by
  subst hK
  exact pe_cmpR (op_neOwn M N gd (hr.mono hj)) ha hb (nomark _)
theorem pt_neOwn {K : PySem.W.Frag} {C : Addr} {j : Nat} {sp : Sp} (M : EqG X.prog X.w K X.mg X.base C j sp) (N : NeC K C) (gd : X.A.guards = some []) (hr : Room k X.A) (ha : PE X a ta) (hb : PE X b tb) (hj : j + 1 ≤ k := by decide) (hK : X.K = K := by rfl) :
    PT X (.Compare a [.NotEq] [b] pos) (tTest (tOp (rNeOwn K C sp) ta tb)) := by
  subst hK
  exact pt_cmpR (op_neOwn M N gd (hr.mono hj)) ha hb (nomark _)
end
end G
set_option Elab.async false
set_option linter.all false
namespace G
open PySem PySem.Spec PyProof.Rows L2
section
variable {P : Program} {w : World} {K : PySem.W.Frag} {mg mb : Str → Option Value} {k : Nat} {fa a : Addr} {fd : FuncData} {x : Str} {sp : Sp} {s1 : Shared} {vs : List Value} {ns : List Int} {H : Hp}
/-- what the caller of the law stands on, over a heap H that tracks the script or nothing -/
structure Stand (K : PySem.W.Frag) (mg mb : Str → Option Value) (s1 : Shared) (a : Addr) (vs : List Value) : Prop where
  kin : K.In s1.heap
  glo : s1.heap.Ns mainGlobals mg
  blt : s1.heap.Ns builtinsNs mb
  all : ∀ x : Str, x ≠ "__name__" → mb x = bootBuiltins x
  lim : s1.heap.NoLimit
  gen : s1.gens = #[]
  obj : s1.heap.get? a = some { cls := .type "list", data := .seq vs.toArray }
theorem Stand.env (S : Stand K mg mb s1 a vs) (h1 : ∀ b u, H b = some u → b = a) (h2 : ∀ u, H a = some u → K.lookup a = none) (h3 : HOk P w H s1.heap) :
    (K.In (hidT s1.heap H) ∧ (hidT s1.heap H).Ns mainGlobals mg) ∧ Env0 P w K mg (hidT s1.heap H) callerA [] s1 H := by
  have free : ∀ b, (b = a → ∀ u, H a = some u → False) → H b = none := fun b n => by
    cases q : H b with
    | none => rfl
    | some u =>
      obtain rfl := h1 b u q
      exact (n rfl u q).elim
  have ki : K.In (hidT s1.heap H) := fun b o e => hidT_get (S.kin b o e) (free b fun z u q => by
    rw [z, h2 u q] at e
    cases e)
  have maps : ∀ {b : Addr} {m : Str → Option Value}, s1.heap.Ns b m → (hidT s1.heap H).Ns b m := fun {b m} n => by
    obtain ⟨o, es, ep, e, d, r⟩ := n
    refine ⟨o, es, ep, hidT_get e (free b fun z u q => ?_), d, r⟩
    rw [z, S.obj] at e
    obtain rfl := Option.some.inj e
    cases (show Data.seq vs.toArray _ = Data.dict es ep from d)
  have md : Mod K mg (hidT s1.heap H) := ⟨ki, maps S.glo, ⟨mb, maps S.blt, S.all⟩, by
    obtain ⟨mc, q1, q2⟩ := S.lim
    exact ⟨mc, maps q1, q2⟩⟩
  exact ⟨⟨ki, maps S.glo⟩, rfl, md, fun b o e => of_hidT e, Nat.le_of_eq (hidT_size _ _), trivial, (fun b hb => by cases hb), h3, .of_eq S.gen⟩
/-- the end -/
theorem law_end {r : Result} {s2 : Shared} (hO : Only H) (hok : HOk P w H s1.heap) (h : CR CX0 [] P w H s1 (fun v _ => v = .bl true) E0 r s2) :
    r = .ok (.ret (.bool true)) ∧ OldK s1.heap s2.heap ∧ s2.os = s1.os ∧ AllBare s2.gens := by
  match r, h with
  | .ok (.ret u), h =>
    obtain ⟨v, H2, os, bare, un, hok2, rv, (q : v = .bl true)⟩ := h
    subst q
    obtain rfl : u = Value.bool true := rv
    refine ⟨rfl, OldK.of_keep ?_, os, bare⟩
    intro b o e
    rcases hO b with z | ⟨ob, xs, z⟩
    · exact un.keep b o e z (fun z => by cases z) (by simp)
    · have e1 := (hok b _ z).1
      have e2 := (hok2 b _ (un.frzs b ob _ z)).1
      rw [e] at e1
      obtain rfl := Option.some.inj e1
      exact e2
/-- law(script), from its def's promise where no repr is under way -/
theorem law_go (S : Stand K mg mb s1 a vs) (hi : IntsAre vs ns) (hl : ns.length ≤ sizeLine) (hr : Room k callerA)
    (F : ∀ base : Heap, K.In base → base.Ns mainGlobals mg → FG P w K mg base CX0 k fa fd [x] sp) (hb : ∀ (s : Shared) (u : Value), BindsTo s fd ⟨[u], []⟩ [(x, u)])
    (hs : ∀ H : Hp, Only H → SqL K H a (ns.map V.int) → sp [.ref a] H (fun v _ => v = .bl true) E0) :
    codeAny (model P w) callerA (.call (.ref fa) ⟨[.ref a], []⟩) (fun r s2 => r = .ok (.ret (.bool true)) ∧ OldK s1.heap s2.heap ∧ s2.os = s1.os ∧ AllBare s2.gens) s1 := by
  have rv := vals_ints hi
  have ln := hi.length
  have run : ∀ H : Hp, Only H → SqL K H a (ns.map V.int) → HOk P w H s1.heap → (∀ b u, H b = some u → b = a) → (∀ u, H a = some u → K.lookup a = none) →
      codeAny (model P w) callerA (.call (.ref fa) ⟨[.ref a], []⟩) (fun r s2 => r = .ok (.ret (.bool true)) ∧ OldK s1.heap s2.heap ∧ s2.os = s1.os ∧ AllBare s2.gens) s1 := by
    intro H o q hok h1 h2
    obtain ⟨⟨g1, g2⟩, e0⟩ := S.env (P := P) (w := w) h1 h2 hok
    exact codeAny_mono ((F _ g1 g2).go callerA rfl [] s1 H ⟨[.ref a], []⟩ [.ref a] [.ref a] _ _ hr e0 (hb s1 (.ref a)) (.cons rfl .nil) (hs H o q)) fun r s2 h => law_end o hok h
  cases hk : K.lookup a with
  | some o =>
    have e := S.kin a o hk
    rw [S.obj] at e
    obtain rfl := Option.some.inj e
    refine run (fun _ => none) (fun _ => .inl rfl) (.inr ⟨_, vs.toArray, _, hk, rfl, rfl, rfl, ?_, ?_⟩) ?_ ?_ ?_
    · rw [List.size_toArray, ln]
      exact hl
    · simpa using rv
    · intro b u z
      cases (show (none : Option HO) = some u from z)
    · intro b u z
      cases (show (none : Option HO) = some u from z)
    · intro u z
      cases (show (none : Option HO) = some u from z)
  | none =>
    let T : HO := .frz { cls := .type "list", data := .seq vs.toArray } (.lst (ns.map V.int))
    have at_ : ∀ {b : Addr} {u : HO}, (if b = a then some T else none) = some u → b = a ∧ u = T := fun {b u} z => by
      by_cases q : b = a
      · rw [if_pos q] at z
        exact ⟨q, (Option.some.inj z).symm⟩
      · rw [if_neg q] at z
        cases z
    refine run (fun b => if b = a then some T else none) ?_ (.inl (.inr ⟨_, if_pos rfl⟩)) ?_ (fun b u z => (at_ z).1) fun _ _ => hk
    · intro b
      by_cases q : b = a
      · exact .inr ⟨_, _, if_pos q⟩
      · exact .inl (if_neg q)
    · intro b u z
      obtain ⟨rfl, rfl⟩ := at_ z
      exact ⟨S.obj, by rw [List.length_map]; exact hl, vs, _, rv, S.obj⟩
end
/-- the goal that k_head leaves -/
theorem walk_g {l : PySem.W.OpenLaw} {n k : Nat} {q : Program} {loose : List Str} {XP : (Str → Option Value) → Heap → Prop} {YP : World → Heap → Prop} {d : DefRec} {K : Params → PySem.W.Frag} {sp : PySem.W.Frag → Sp} {x : Str}
    (hn : l.most = some n) (hn2 : n ≤ sizeLine) (hdf : d.params.defaults = []) (hr : Room k callerA) (hY : ∀ (w : World) (h : Heap), YP w h → (K w.params).In h)
    (F : ∀ (w : World) (mg : Str → Option Value) (fa : Addr) (h : Heap), (K w.params).In h → h.Ns mainGlobals mg → mg d.name = some (.ref fa) → ∃ fd : FuncData, (∀ (s : Shared) (u : Value), BindsTo s fd ⟨[u], []⟩ [(x, u)]) ∧
      ∀ base : Heap, (K w.params).In base → base.Ns mainGlobals mg → FG l.prog w (K w.params) mg base CX0 k fa fd [x] (sp (K w.params)))
    (hsp : ∀ (K : PySem.W.Frag) (H : Hp) (a : Addr) (ns : List Int), ns.length ≤ n → SqL K H a (ns.map V.int) → sp K [.ref a] H (fun v _ => v = .bl true) E0) :
    PySem.W.WalkO q loose XP YP l.row.toRowW d [] (fun f vs => PySem.call f vs) := by
  refine Att.attach_call hn hdf ?_
  intro w s0 s1 mg mb fa o pm cd doc a vs ns Gr Y _ _ _ hmg hobj hi hlen hg
  have kx := hY w _ Y
  obtain ⟨fd, hb, hF⟩ := F w mg fa _ kx Gr.T.g hmg
  exact law_go ⟨kx, Gr.T.g, Gr.T.b, Gr.T.builtins, Gr.T.nolimit, hg, hobj⟩ hi (Nat.le_trans hlen hn2) hr hF hb fun H _ q => hsp _ H a ns hlen q
/-! ### isinstance facts, from what the written part answers -/
theorem kit_self {K : PySem.W.Frag} {t : Value} (h : (t == t) = true) : PySem.W.kitOne K t t = some true := by
  unfold PySem.W.kitOne
  rw [if_pos h]
theorem kit_ref {K : PySem.W.Frag} {t : Value} {C : Addr} {b : Bool} (h1 : PySem.W.isClsIn K C = true) (h2 : PySem.W.typeIn K (.ref C) = some (.type "type")) (ne : (t == Value.ref C) = false) (h : PySem.W.subIn K t (.ref C) = some b) :
    PySem.W.kitOne K t (.ref C) = some b := by
  have e : PySem.W.kitOne K t (.ref C) = if ((PySem.W.clsIn K C).isSome && PySem.W.typeIn K (.ref C) == some (.type "type")) = true then PySem.W.subIn K t (.ref C) else none := by
    unfold PySem.W.kitOne
    rw [ne]
    rfl
  have h1' : (PySem.W.clsIn K C).isSome = true := h1
  rw [e, h1', h2, h, if_pos (by decide)]
theorem ref_ne {C D : Addr} (h : D ≠ C) : (Value.ref D == Value.ref C) = false := by
  cases e : (Value.ref D == Value.ref C) with
  | false => rfl
  | true => exact absurd (Value.ref.inj (beq_iff_eq.mp e)) h
end G
set_option Elab.async false
set_option linter.all false
/-! exceptions as values: their classes stand over ValueError or over LookupError -/
namespace G
open PySem PySem.Spec PyProof.Rows L2
open Builtin Builtin.ObjectAttr
/-- a built-in exception class and what stands above it -/
abbrev above (B : String) : List Value := [.type B, .type "Exception", .type "BaseException", .type "object"]
def overB (B : String) : List Value → Bool
  | .ref _ :: r => overB B r
  | l => l == above B
theorem over_split {B : String} : ∀ {l : List Value}, overB B l = true → ∃ cs : List Addr, l = cs.map Value.ref ++ above B
  | [], e => ⟨[], (beq_iff_eq.mp e)⟩
  | .ref c :: r, e => by
    obtain ⟨cs, q⟩ := over_split (l := r) e
    exact ⟨c :: cs, by rw [q]; rfl⟩
  | .none :: _, e => ⟨[], beq_iff_eq.mp e⟩
  | .ellipsis :: _, e => ⟨[], beq_iff_eq.mp e⟩
  | .notImplemented :: _, e => ⟨[], beq_iff_eq.mp e⟩
  | .bool _ :: _, e => ⟨[], beq_iff_eq.mp e⟩
  | .int _ _ :: _, e => ⟨[], beq_iff_eq.mp e⟩
  | .float _ _ :: _, e => ⟨[], beq_iff_eq.mp e⟩
  | .str _ _ :: _, e => ⟨[], beq_iff_eq.mp e⟩
  | .bytes _ _ :: _, e => ⟨[], beq_iff_eq.mp e⟩
  | .type _ :: _, e => ⟨[], beq_iff_eq.mp e⟩
  | .builtin _ :: _, e => ⟨[], beq_iff_eq.mp e⟩
theorem over_has {B : String} (T : String) : ∀ cs : List Addr, (cs.map Value.ref ++ above B).contains (.type T) = (above B).contains (.type T)
  | [] => rfl
  | c :: r => by
    have ih := over_has (B := B) T r
    rw [← ih]
    show ((Value.type T == Value.ref c) || _) = _
    rfl
theorem over_ne {B : String} (cs : List Addr) : (cs.map Value.ref ++ above B).isEmpty = false := by
  cases cs <;> rfl
/-- ValueError, LookupError -/
structure Root (B newId initId : String) : Prop where
  base : ExcBaseFacts B newId initId (above B)
  free : ∀ self : Value, refuseLoop self "__setattr__" (above B) = pure ()
  obj : (above B).contains (.type "object") = true
theorem rootV : Root "ValueError" "ValueError.__new__" "ValueError.__init__" := ⟨F.excBase_ValueError, fun self => F.store_ValueError.passes self, by decide +kernel⟩
theorem rootL : Root "LookupError" "LookupError.__new__" "LookupError.__init__" := ⟨F.excBase_LookupError, fun self => F.store_LookupError.passes self, by decide +kernel⟩
theorem Root.pass {B newId initId : String} (R : Root B newId initId) (self : Value) : ∀ cs : List Addr, refuseLoop self "__setattr__" (cs.map Value.ref ++ above B) = pure ()
  | [] => R.free self
  | c :: r => (refuseLoop_ref self "__setattr__" c _).trans (R.pass self r)
section
variable {prog : Program} {w : World} {A : Around} {R : Result → Shared → Prop} {s : Shared} {K : PySem.W.Frag} {x C : Addr} {ox : Obj} {od : Option Obj} {cd : ClassData} {cs : List Addr} {name : Str} {tk : Tok} {v : Value} {B newId initId : String}
theorem x_osa (Rt : Root B newId initId) (X : K.In s.heap) (I : PySem.W.InstAt s.heap x ox C od) (hcd : PySem.W.clsIn K C = some cd) (hm : cd.mro = cs.map Value.ref ++ above B) (ha : PySem.W.findIn K (.ref C) name = some none)
    (h : ∀ A' (Q : Fin → Shared → Prop) E, (∀ s', R (.ok (.ret .none)) s' → Q (.done (.ret .none)) s') → wpAny (model prog w) A' (storeInOwnDict (.ref x) (.ref C) (.str name tk) name v false) Q E s) :
    codeAny (model prog w) A (.call (.builtin "object.__setattr__") ⟨[.ref x, .str name tk, v], []⟩) R s := by
  have SF := F.store_object
  have ob : cd.mro.contains (.type "object") = true := by
    rw [hm, over_has]
    exact Rt.obj
  have nm : cd.mro.isEmpty = false := by
    rw [hm]
    exact over_ne cs
  have io : PySem.W.mroIn K C (.type "object") = some true := by
    unfold PySem.W.mroIn
    rw [hcd]
    show (if cd.mro.isEmpty = true then none else some (cd.mro.contains (.type "object"))) = _
    rw [nm, ob]
    rfl
  have lm : PySem.W.Looks (model prog w) s.heap (mroOf (.ref C)) cd.mro := (PySem.W.looks_clsIn X hcd).andThen .now
  refine codeAny_call_builtin SF.slot.plain SF.entry (@PySem.W.check_slot (model prog w) _ _ s "object.__setattr__" "object" "__setattr__" (.ref x) [.str name tk, v] [] _ SF.kind SF.split (I.type.andThen (PySem.W.looks_mroIn X io)) (SF.args (.ref x) (.str name tk) v) ?_)
  rw [PySem.W.osa_eq, refuse_eq]
  refine wpAny_bind (wpAny_bind (I.type.here (wpAny_bind (lm.here ?_))))
  rw [hm, Rt.pass]
  refine wpAny_pure (wpAny_bind (I.type.here (wpAny_bind ((PySem.W.looks_findIn X ha).here (wpAny_bind ?_)))))
  refine wpAny_pure ?_
  exact h _ _ _ fun s' z => z
/-- the first field -/
theorem x_put0 {fv : Array Value} {Q : Fin → Shared → Prop} {E : Value → Shared → Prop} (X : K.In s.heap) (hx : s.heap.get? x = some { cls := .ref C, data := .fields fv }) (hcd : PySem.W.clsIn K C = some cd) (hh : cd.hasDict = true)
    (hq : ∀ h' tk' dx, (∀ b o, b ≠ x → s.heap.get? b = some o → h'.get? b = some o) → s.heap.objs.size ≤ dx → dx ≠ x → h'.get? x = some { cls := .ref C, dict := some dx, data := .fields fv } →
      h'.Ns1 dx (fun y => if y = name then some v else none) → Q (.done (.ret .none)) { s with heap := h', toks := tk' }) :
    wpAny (model prog w) A (storeInOwnDict (.ref x) (.ref C) (.str name tk) name v false) Q E s := by
  obtain ⟨hp, g, d, t, os⟩ := s
  have lc : PySem.W.Looks (model prog w) hp (classData C) cd := PySem.W.looks_clsIn X hcd
  have nx : x ≠ hp.objs.size := Nat.ne_of_lt (Heap.lt_size hx)
  cases cd with
  | mk nm bs mro ns qn hd sn sb ab col del =>
    obtain rfl : hd = true := hh
    unfold storeInOwnDict ownDictForStores
    repeat (first | with_reducible refine PySem.HandSPX.store_in_new ?_ ?_ | with_reducible refine wpAny_loadPart_at hx ?_ | with_reducible refine lc.at ?_ | wp_step)
    · exact ⟨_, #[], _, (Heap.get?_update_ne _ _ _ _ nx.symm).trans (Heap.get?_push_at rfl rfl), rfl, fun e he => absurd he (by simp), fun _ => rfl⟩
    · intro h' tk' hn' hs
      refine hq h' tk' hp.objs.size ?_ (Nat.le_refl _) nx.symm ?_ hn'
      · intro b o hb ho
        exact (hs.2 b (Nat.ne_of_lt (Heap.lt_size ho))).trans ((Heap.get?_update_ne _ _ _ _ hb).trans (Heap.get?_push_of_some _ ho))
      · exact (hs.2 x nx).trans (Heap.get?_update_self _ (Heap.get?_push_of_some _ hx) rfl)
/-- a further field -/
theorem x_put1 {fv : Array Value} {dx : Addr} {m0 : Str → Option Value} {nl : List Str} {Q : Fin → Shared → Prop} {E : Value → Shared → Prop} (X : K.In s.heap) (hx : s.heap.get? x = some { cls := .ref C, dict := some dx, data := .fields fv }) (hcd : PySem.W.clsIn K C = some cd) (hh : cd.hasDict = true)
    (hns : s.heap.Ns1 dx m0) (hw : Within m0 nl) (hz : nl.length ≤ 1000)
    (hq : ∀ h' tk', (∀ b o, b ≠ dx → s.heap.get? b = some o → h'.get? b = some o) → h'.Ns1 dx (fun y => if y = name then some v else m0 y) → Q (.done (.ret .none)) { s with heap := h', toks := tk' }) :
    wpAny (model prog w) A (storeInOwnDict (.ref x) (.ref C) (.str name tk) name v false) Q E s := by
  obtain ⟨hp, g, d, t, os⟩ := s
  have lc : PySem.W.Looks (model prog w) hp (classData C) cd := PySem.W.looks_clsIn X hcd
  cases cd with
  | mk nm bs mro ns qn hd sn sb ab col del =>
    obtain rfl : hd = true := hh
    unfold storeInOwnDict ownDictForStores
    repeat (first | with_reducible refine PySem.OEX.store_in_old hns hw hz ?_ | with_reducible refine wpAny_loadPart_at hx ?_ | with_reducible refine lc.at ?_ | wp_step)
    intro h' tk' hn' hs
    exact hq h' tk' (fun b o hb ho => (hs.2 b hb).trans ho) hn'
end
/-- what is asked of an exception's class -/
structure Xc (K : PySem.W.Frag) (C : Addr) : Prop where
  cls : ∃ B newId initId, Root B newId initId ∧ ∃ nm q N bs sn sub ab col dd k0 k1 k2 k3 k5, ∃ cs : List Addr, K.lookup C = some (excClassObj nm q C N bs (cs.map Value.ref ++ above B) true sn sub ab col dd k0 k1 k2 k3 k5 newId)
  sa : PySem.W.findIn K (.ref C) "__setattr__" = some (some (.builtin "object.__setattr__"))
  ga : PySem.W.findIn K (.ref C) "__getattribute__" = some (some (.builtin "BaseException.__getattribute__"))
  gg : PySem.W.findIn K (.ref C) "__getattr__" = some none
  exC : PySem.W.subIn K (.ref C) (.type "BaseException") = some true
  kC : PySem.W.keepIn K (.ref C) = true
  hd : PySem.W.hasDictIn K C = true
  ha : PySem.W.findIn K (.ref C) "__class__" = some (some (.builtin "object.__class__"))
  hn : PySem.W.specialIn K (.builtin "object.__class__") "__get__" = some (some (.builtin "getset_descriptor.__get__"))
  ht : PySem.W.takesIn K (.builtin "object.__class__") = some true
  hm : PySem.W.mroIn K C (.type "object") = some true
theorem xc_at {K : PySem.W.Frag} {C : Addr} {nm q : Str} {N : Addr} {bs bm : List Value} {sn : List Str} {sub : List Value} {ab : Bool} {col : Option Bool} {dd : Option Addr} {k0 k1 k2 k3 k5 : Option Value} {newId : String}
    (h : K.lookup C = some (excClassObj nm q C N bs bm true sn sub ab col dd k0 k1 k2 k3 k5 newId)) {B initId : String} (R : Root B newId initId) (hb : overB B bm = true) :
    ∃ B newId initId, Root B newId initId ∧ ∃ nm q N bs sn sub ab col dd k0 k1 k2 k3 k5, ∃ cs : List Addr, K.lookup C = some (excClassObj nm q C N bs (cs.map Value.ref ++ above B) true sn sub ab col dd k0 k1 k2 k3 k5 newId) := by
  obtain ⟨cs, rfl⟩ := over_split hb
  exact ⟨B, newId, initId, R, nm, q, N, bs, sn, sub, ab, col, dd, k0, k1, k2, k3, k5, cs, h⟩
section
variable {X : Cx} {pins : List (Addr × Obj)} {σ : L2.St} {H : Hp} {s : Shared} {a C dx : Addr} {f : Str} {y : V} {u : Value} {fs : List (Str × V)} {Q : Unit → Shared → Prop} {E : Value → Shared → Prop} {A : Around}
theorem Xc.info {K : PySem.W.Frag} (T : Xc K C) : ∃ (B newId initId : String) (cs : List Addr) (cd : ClassData), Root B newId initId ∧ PySem.W.clsIn K C = some cd ∧ cd.mro = (C :: cs).map Value.ref ++ above B ∧ cd.hasDict = true := by
  obtain ⟨B, n1, n2, R, nm, q, N, bs, sn, sub, ab, col, dd, k0, k1, k2, k3, k5, cs, e⟩ := T.cls
  refine ⟨B, n1, n2, cs, { name := nm, bases := bs, mro := (C :: cs).map Value.ref ++ above B, ns := N, qualname := q, hasDict := true, slotNames := sn, subclasses := sub, abstract := ab, collection := col, hasDel := false }, R, ?_, rfl, rfl⟩
  unfold PySem.W.clsIn
  rw [e]
  rfl
/-- an exception's first field is stored: its object changes, a dict is new -/
theorem Inv.first {h2 : Heap} {tk : Nat} (I : Inv X pins σ H s) (e : H a = some (exo a C none)) (kp : ∀ b o, b ≠ a → s.heap.get? b = some o → h2.get? b = some o) (nw : s.heap.objs.size ≤ dx) (ne : dx ≠ a)
    (o1 : ObjOk X.prog X.w (upd (upd H dx (exd dx fs)) a (exo a C (some dx))) h2 a (exo a C (some dx))) (o2 : ObjOk X.prog X.w (upd (upd H dx (exd dx fs)) a (exo a C (some dx))) h2 dx (exd dx fs)) :
    Inv X pins σ (upd (upd H dx (exd dx fs)) a (exo a C (some dx))) { s with heap := h2, toks := tk } := by
  have fr : H dx = none := I.hok.fresh nw
  have low : ∀ {b : Addr} {o : Obj}, s.heap.get? b = some o → b ≠ dx := fun {b o} z w => by
    have := Heap.lt_size z
    rw [w] at this
    exact absurd nw (Nat.not_le_of_lt this)
  have off : ∀ {b : Addr}, H b = none → b ≠ a := fun {b} n z => by
    rw [z, e] at n
    cases n
  have same : ∀ {b : Addr} {v : HO}, H b = some v → b ≠ a → (upd (upd H dx (exd dx fs)) a (exo a C (some dx))) b = some v := fun {b v} z n => by
    rw [upd_ne n, upd_ne (ne_of_none z fr)]
    exact z
  refine I.un (t' := tk) ?_ ?_
  · refine { keep := ?_, slot := ?_, free := ?_, there := ?_, tups := ?_, frzs := ?_, tbls := ?_ }
    · exact fun b o z n _ _ => kp b o (off n) z
    · exact fun b o z n _ _ => ⟨o.slots, kp b o (off n) z⟩
    · intro b o z n _
      rw [upd_ne (off n), upd_ne (low z)]
      exact n
    · intro b o z _
      by_cases w : b = a
      · obtain ⟨_, ⟨o', p⟩, _⟩ := o1
        exact ⟨o', by rw [w]; exact p⟩
      · exact ⟨o, kp b o w z⟩
    · exact fun b xs z => same z (at_ne e z exo_tup)
    · exact fun b o v z => same z (at_ne e z exo_frz)
    · exact fun b ps z => ⟨#[], by rw [same z (at_ne e z exo_tbl)]; simp⟩
  · intro b o z
    by_cases w : b = a
    · subst w
      rw [upd_same] at z
      obtain rfl := Option.some.inj z
      exact o1
    · rw [upd_ne w] at z
      by_cases w2 : b = dx
      · subst w2
        rw [upd_same] at z
        obtain rfl := Option.some.inj z
        exact o2
      · rw [upd_ne w2] at z
        refine (I.hok b o z).stay (fun c v hc q => kp c v ?_ q) (fun c hc => same hc (at_ne e hc exo_own)) (fun c xs hc => same hc (at_ne e hc exo_tup))
        rcases hc with hc | hc
        · rw [hc]
          exact w
        · exact at_ne e hc exo_own
/-- self.f = y -/
theorem x_set0 (T : Xc X.K C) (I : Inv X pins σ H s) (e : H a = some (exo a C none)) (no : PySem.W.findIn X.K (.ref C) f = some none) (ry : RelV y u)
    (h : ∀ dx s', H dx = none → dx ≠ a → Inv X pins σ (upd (upd H dx (exd dx [(f, y)])) a (exo a C (some dx))) s' → Q () s') : wpAny (model X.prog X.w) A (setAttr (.ref a) f u) Q E s := by
  obtain ⟨B, n1, n2, cs, cd, R, hcd, hm, hh⟩ := T.info
  obtain ⟨t1, ho⟩ := exo_at I.hok e
  refine PySem.W.set_plain I.kIn (ox := { cls := .ref C, dict := none, data := .fields #[.ref t1, .none, .none, .none, .bool false, .none] }) (od := none) ⟨ho, rfl, rfl, trivial⟩ T.sa ?_
  refine x_osa (cs := C :: cs) R I.kIn (ox := { cls := .ref C, dict := none, data := .fields #[.ref t1, .none, .none, .none, .bool false, .none] }) (od := none) ⟨ho, rfl, rfl, trivial⟩ hcd hm no fun A' Q' E' hQ => ?_
  refine x_put0 I.kIn ho hcd hh fun h2 tk dx k nw ne hx hn => hQ _ ?_
  exact h dx _ (I.hok.fresh nw) ne (Inv.first (tk := tk) (I.tok _) e k nw ne (exo_ok hx) (exd_ok hn (relO_put (fs := []) ry fun g => True.intro)))
theorem x_set1 (T : Xc X.K C) (I : Inv X pins σ H s) (e : H a = some (exo a C (some dx))) (ed : H dx = some (exd dx fs)) (hl : fs.length ≤ 900) (no : PySem.W.findIn X.K (.ref C) f = some none) (ry : RelV y u)
    (h : ∀ s', Inv X pins σ (upd H dx (exd dx ((f, y) :: fs))) s' → Q () s') : wpAny (model X.prog X.w) A (setAttr (.ref a) f u) Q E s := by
  obtain ⟨B, n1, n2, cs, cd, R, hcd, hm, hh⟩ := T.info
  obtain ⟨t1, ho⟩ := exo_at I.hok e
  obtain ⟨mA, hns, rel⟩ := exd_at I.hok ed
  have hw := within_of rel
  obtain ⟨oD, _, _, hoD, _, _⟩ := hns.count hw
  refine PySem.W.set_plain I.kIn (ox := { cls := .ref C, dict := some dx, data := .fields #[.ref t1, .none, .none, .none, .bool false, .none] }) (od := some oD) ⟨ho, rfl, rfl, hoD⟩ T.sa ?_
  refine x_osa (cs := C :: cs) R I.kIn (ox := { cls := .ref C, dict := some dx, data := .fields #[.ref t1, .none, .none, .none, .bool false, .none] }) (od := some oD) ⟨ho, rfl, rfl, hoD⟩ hcd hm no fun A' Q' E' hQ => ?_
  refine x_put1 I.kIn ho hcd hh hns hw (by rw [List.length_map]; omega) fun h2 tk k hn => hQ _ ?_
  have at_ : ∃ o, h2.get? dx = some o := by
    obtain ⟨o, _, _, q, _⟩ := hn
    exact ⟨o, q⟩
  exact h _ (I.write (t' := tk) (x := dx) (e := dx) (o := exd dx ((f, y) :: fs)) (by rw [ed]; exact True.intro) (.inl rfl) k at_ (exd_ok hn (relO_put ry rel)))
end
/-- the reading of self.f = e in an exception's __init__ -/
def tXst (K : PySem.W.Frag) (f : Str) (to te : TE) : TS := fun D σ H => te σ H fun y H1 => to σ H1 fun x H2 => ∃ a C : Addr, x = .ref a ∧ Xc K C ∧ PySem.W.findIn K (.ref C) f = some none ∧
  ((H2 a = some (exo a C none) ∧ ∀ dx, H2 dx = none → dx ≠ a → D.nx σ (upd (upd H2 dx (exd dx [(f, y)])) a (exo a C (some dx)))) ∨
    ∃ (dx : Addr) (fs : List (Str × V)), H2 a = some (exo a C (some dx)) ∧ H2 dx = some (exd dx fs) ∧ fs.length ≤ 900 ∧ D.nx σ (upd H2 dx (exd dx ((f, y) :: fs))))
theorem ps_xst {X : Cx} {o e : Expr} {to te : TE} {f : Str} {p' pos : Pos} (ho : PE X o to) (he : PE X e te) (hs : swapsWith e (some (.Attribute o f p')) pos.line X.env = pure false := by rfl) : PS X (.Assign [.Attribute o f p'] e pos) (tXst X.K f to te) := by
  refine ⟨fun pins s σ H D I h => plainObj_wpAny_Assign_Attribute (thn (he.run pins s σ H _ I h) ?_) hs⟩
  rintro v s1 ⟨y, H1, I1, r1, q1⟩
  refine thn (ho.run pins s1 σ H1 _ I1 q1) ?_
  rintro u s2 ⟨x, H2, I2, r2, a, C, rfl, T, no, q⟩
  obtain rfl : u = Value.ref a := r2
  rcases q with ⟨ea, q⟩ | ⟨dx, fs, ea, ed, hl, q⟩
  · exact x_set0 T I2 ea no r1 fun dx s' n ne J => ⟨σ, _, J, q dx n ne⟩
  · exact x_set1 T I2 ea ed hl no r1 fun s' J => ⟨σ, _, J, q⟩
/-! C(e, ..) as a value -/
structure MkX (P : Program) (w : World) (K : PySem.W.Frag) (mg : Str → Option Value) (base : Heap) (x : Str) (C : Addr) (k : Nat) (ps : List Str) (sp : Sp) : Prop where
  ex : ∃ f fd, FG P w K mg base CX0 k f fd ps sp ∧ PySem.W.findIn K (.ref C) "__init__" = some (some (.ref f)) ∧ PySem.W.typeIn K (.ref f) = some (.type "function") ∧ mg x = some (.ref C) ∧ Binds K fd ps []
/-- the reading: the exception stands at a, no field yet; then its __init__'s promise -/
def tXmk (C : Addr) (sp : Sp) (t : TA) : TE := fun σ H Q => t σ H fun vs H1 => vs.length ≤ 1000 ∧ ∀ a, H1 a = none → sp (.ref a :: vs) (upd H1 a (exo a C none)) (fun v H2 => v = .non ∧ Q (.ref a) H2) E0
section
variable {X : Cx} {k : Nat} {C : Addr} {ps : List Str} {sp : Sp} {x : Str} {p pos : Pos} {e : Expr} {es : List Expr} {t : TA}
theorem pe_xmk (T : Xc X.K C) (M : MkX X.prog X.w X.K X.mg X.base x C k ps sp) (gd : X.A.guards = some []) (hr : Room (k + 1) X.A) (hg : Gl X x) (ha : PA X (e :: es) t) (hdb : (x == ("__debug__" : Str)) = false := by decide)
    (he : starEach (e :: es) X.env = (false, eval e X.env) :: starEach es X.env := by rfl) (hpl : (backTo pos (starEach es X.env)).any (·.1) = false := by rfl) : PE X (.Call (.Name x p) (e :: es) [] pos) (tXmk C sp t) := by
  obtain ⟨f, fd, F, fi, ft, hm, hb⟩ := M.ex
  obtain ⟨B, n1, n2, R, nm, q, N, bs, sn, sub, ab, col, dd, k0, k1, k2, k3, k5, cs, hC⟩ := T.cls
  refine ⟨fun pins s σ H Q I h => wpAny_Call_Name_kw (ld_glob I hg hm ?_ hdb)⟩
  refine PySem.W.callWith_K (h₀ := X.base) I.mod.kin T.kC (thn (ha.run pos pins s σ H _ I h) ?_) he hpl
  rintro us s1 ⟨vs, H1, I1, r, hz, q1⟩
  refine ⟨I1.kIn, ?_⟩
  show wpAny _ _ (call (.ref C) us) _ _ _
  obtain ⟨hp, g, dr, tk, os⟩ := s1
  have nw : H1 (hp.objs.size + 1) = none := I1.hok.fresh (Nat.le_succ _)
  have hq := q1 _ nw
  have kp : ∀ b o, hp.get? b = some o → ((hp.push (PySem.W.kdv_tup us)).push (PySem.HandSPX.excO C hp.objs.size)).get? b = some o := fun b o z => Heap.get?_push_of_some _ (Heap.get?_push_of_some _ z)
  have hget : ((hp.push (PySem.W.kdv_tup us)).push (PySem.HandSPX.excO C hp.objs.size)).get? (hp.objs.size + 1) = some (PySem.HandSPX.excO C hp.objs.size) := by heap_get
  have J : Inv X pins σ (upd H1 (hp.objs.size + 1) (exo (hp.objs.size + 1) C none)) ⟨(hp.push (PySem.W.kdv_tup us)).push (PySem.HandSPX.excO C hp.objs.size), g, dr, tk, os⟩ :=
    I1.laid (t' := tk) (a := hp.objs.size + 1) (o := exo (hp.objs.size + 1) C none) kp (Nat.le_succ _) (exo_ok hget)
  have rv : Vals (V.ref (hp.objs.size + 1) :: vs) (Value.ref (hp.objs.size + 1) :: us) := .cons rfl r
  have ln : (Value.ref (hp.objs.size + 1) :: us).length = ps.length := rv.length.symm.trans (F.ln _ _ _ _ hq)
  have few : us.length ≤ sizeLine := by
    rw [← Paired.length r]
    exact Nat.le_trans hz (by decide)
  refine PySem.wpAny_call (PySem.HandSPX.call_own R.base (fun Y => over_has Y cs) (I1.kIn _ _ hC) (PySem.W.looks_findIn I1.kIn fi) (fun self => PySem.W.bind_fn I1.kIn self ft) few
    (codeAny_mono (F.go _ (guards_make (C := C) (us := us) (kw := []) gd) X.stack _ _ _ _ _ _ E0 (hr.make C us []) (J.env0.make C us []) (binds_to hb J.kIn ln) rv hq) fun z s' hz => ?_))
  cases z with
  | error er => exact pass0 pins σ _ _ er s' J hz
  | ok fl =>
    cases fl with
    | ret u =>
      obtain ⟨v, H', J', rv, rfl, qv⟩ := J.after hz
      exact ⟨rv, .ref (hp.objs.size + 1), H', J', rfl, qv⟩
    | next => exact hz.elim
    | brk => exact hz.elim
    | cont => exact hz.elim
/-- e.f of an exception that stands -/
def tXrd (K : PySem.W.Frag) (f : Str) (te : TE) : TE := fun σ H Q => te σ H fun x H1 => ∃ (a C dx : Addr) (fs : List (Str × V)) (v : V), x = .ref a ∧ Xc K C ∧ PySem.W.findIn K (.ref C) f = some none ∧ H1 a = some (exo a C (some dx)) ∧ H1 dx = some (exd dx fs) ∧ fs.lookup f = some v ∧ Q v H1
theorem pe_xrd {K : PySem.W.Frag} {te : TE} {n : Str} (he : PE X e te) (hb : attributeBase e n X.env (eval e X.env) = eval e X.env := by rfl) (hK : X.K = K := by rfl) : PE X (.Attribute e n pos) (tXrd K n te) := by
  subst hK
  refine ⟨fun pins s σ H Q I h => attr_of hb (thn (he.run pins s σ H _ I h) ?_)⟩
  rintro u s1 ⟨x, H1, I1, rx, a, C, dx, fs, v, rfl, T, no, ea, ed, l, q⟩
  obtain rfl : u = Value.ref a := rx
  obtain ⟨t1, ho⟩ := exo_at I1.hok ea
  obtain ⟨mA, hns, rel⟩ := exd_at I1.hok ed
  obtain ⟨oD, _, _, hoD, _, _⟩ := hns.count (within_of rel)
  obtain ⟨od, od1, hl⟩ := lookIn_ns hns
  obtain ⟨u, hu, ru⟩ := RelO.some_of (v := v) (o := mA n) (by rw [← l]; exact rel n)
  have J : PySem.W.InstAt s1.heap a { cls := .ref C, dict := some dx, data := .fields #[.ref t1, .none, .none, .none, .bool false, .none] } C (some od) := ⟨ho, rfl, rfl, od1⟩
  exact HandSPX.exc_get I1.kIn J T.ga T.gg T.exC (PySem.W.findObj_own T.hd no rfl (by rw [hl, hu])) (handed_of ru) ⟨v, H1, I1.tok _, ru, q⟩
/-- isinstance(e, c) -/
def rIsX (K : PySem.W.Frag) : List V → Hp → VK → Prop := fun xs H Q => ∃ (a C : Addr) (d : Option Addr) (c : V) (cv : Value) (b : Bool), xs = [.ref a, c] ∧ Xc K C ∧ H a = some (exo a C d) ∧ (∀ dx, d = some dx → ∃ fs, H dx = some (exd dx fs)) ∧ (∀ u, RelV c u → u = cv) ∧ PySem.W.kitOne K (.ref C) cv = some b ∧ Q (.bl b) H
theorem call_isX {K : PySem.W.Frag} (hK : X.K = K := by rfl) : CallR X (.builtin "isinstance") (rIsX K) := by
  subst hK
  intro pins s σ H xs us Q I r h
  obtain ⟨a, C, d, c, cv, b, rfl, T, ea, ed, hcv, kt, q⟩ := h
  obtain ⟨u1, u2, rfl, r1, r2⟩ := vals2 r
  obtain rfl : u1 = Value.ref a := r1
  obtain rfl := hcv _ r2
  obtain ⟨t1, ho⟩ := exo_at I.hok ea
  have cl : (PySem.W.clsIn X.K C).isSome = true := by
    obtain ⟨_, _, _, _, cd, _, hcd, _⟩ := T.info
    rw [hcd]
    rfl
  cases d with
  | none => exact PySem.W.kia_one (PySem.W.kitx_exc (od := none) cl T.ga T.gg T.exC T.ha T.hn T.ht T.hm) I.kIn ⟨ho, rfl, rfl, trivial⟩ kt (fun z => nomatch z) fun tk => ⟨.bl b, H, I.kept (t' := tk) fun _ _ z => z, rfl, q⟩
  | some dx =>
    obtain ⟨fs, ed⟩ := ed dx rfl
    obtain ⟨mA, hns, rel⟩ := exd_at I.hok ed
    obtain ⟨od, od1, hl⟩ := lookIn_ns hns
    exact PySem.W.kia_one (PySem.W.kitx_exc (od := some od) cl T.ga T.gg T.exC T.ha T.hn T.ht T.hm) I.kIn ⟨ho, rfl, rfl, od1⟩ kt (fun z => nomatch z) fun tk => ⟨.bl b, H, I.kept (t' := tk) fun _ _ z => z, rfl, q⟩
end
/-! C(k = v, ..) as a value -/
section
variable {prog : Program} {w : World} {M : Model} {A : Around} {E : Value → Shared → Prop} {R : Result → Shared → Prop} {h : Heap} {g : Array GenState} {d : Drawn} {t : Nat} {os : OsState}
variable {nm q : Str} {C N : Addr} {bs bm bmB : List Value} {hdct : Bool} {sn : List Str} {sub : List Value} {ab : Bool} {col : Option Bool} {dd : Option Addr} {k0 k1 k2 k3 k5 : Option Value} {B newId initId : String} {kw : List (Str × Value)}
theorem kw_check (F : ExcBaseFacts B newId initId bmB) (hT : ∀ Y : String, bm.contains (.type Y) = bmB.contains (.type Y)) {Q : Unit → Shared → Prop} (hC : h.get? C = some (excClassObj nm q C N bs bm hdct sn sub ab col dd k0 k1 k2 k3 k5 newId))
    (hq : Q () ⟨h, g, d, t, os⟩) : wpAny M A (checkBuiltinCall newId ⟨[.ref C], kw⟩) Q E ⟨h, g, d, t, os⟩ := by
  have inB : (Value.ref C :: bm).contains (.type B) = true := by
    rw [List.contains_cons, hT, F.hasB, Bool.or_true]
  have st := F.noStar
  simp only [checkBuiltinCall, F.newKind, F.newSplit, F.newRow]
  repeat (first | refine wpAny_loadPart_at hC ?_ | (refine wpAny_isSubtype_exc hC ?_; rw [inB]) | refine wpAny_staticBase_exc hC ?_ | refine wpAny_madeBy_exc hC ?_ | simp only [bne_self_eq_false, Bool.false_eq_true, if_false] | wp_step)
  exact hq
theorem kw_new (F : ExcBaseFacts B newId initId bmB) (hT : ∀ Y : String, bm.contains (.type Y) = bmB.contains (.type Y)) (hC : h.get? C = some (excClassObj nm q C N bs bm hdct sn sub ab col dd k0 k1 k2 k3 k5 newId))
    (hq : R (.ok (.ret (.ref (h.objs.size + 1)))) ⟨(h.push { cls := .type "tuple", data := .seq #[] }).push { cls := .ref C, data := .fields #[.ref h.objs.size, .none, .none, .none, .bool false, .none] }, g, d, t, os⟩) :
    codeAny (model prog w) A (.builtin newId ⟨[.ref C], kw⟩) R ⟨h, g, d, t, os⟩ := by
  have en := F.ends
  have b1 : (Value.ref C :: bm).contains (.type B) = true := by
    rw [List.contains_cons, hT, F.hasB, Bool.or_true]
  have b2 : (Value.ref C :: bm).contains (.type "AttributeError") = false := by
    rw [List.contains_cons, hT, F.noAttr]
    rfl
  have b3 : (Value.ref C :: bm).contains (.type "NameError") = false := by
    rw [List.contains_cons, hT, F.noName]
    rfl
  refine codeAny_builtinAt F.entry ?_
  unfold Builtin.«BaseException.__new__»
  refine PySem.wpAt_bind ?_
  show PySem.wpAt _ _ _ (stack >>= _) _ _ _
  refine PySem.wpAt_bind (PySem.wpAt_stack fun p below => PySem.wpAt_of_wpAny ?_)
  wp_walk
  refine PySem.wpAt_of_wpAny ?_
  rw [F.owner]
  repeat (first | with_reducible refine wpAny_madeHere_exc F.canon hC ?_ | with_reducible refine wpAny_loadPart_at hC ?_ | (with_reducible refine wpAny_isSubtype_exc hC ?_; first | rw [b1] | rw [b2] | rw [b3]) | wp_step)
  show R _ _
  rw [Heap.size_push]
  exact hq
theorem kw_type (F : ExcBaseFacts B newId initId bmB) (hT : ∀ Y : String, bm.contains (.type Y) = bmB.contains (.type Y)) {fI : Addr} {Q : PySem.Fin → Shared → Prop} (hC : h.get? C = some (excClassObj nm q C N bs bm hdct sn sub ab col dd k0 k1 k2 k3 k5 newId))
    (hi : PySem.W.Looks (model prog w) h (typeLookup (.ref C) "__init__") (some (.ref fI))) (hb : ∀ self, PySem.W.Looks (model prog w) h (bindSpecial (.ref fI) self) (.ref fI, [self]))
    (hq : codeAny (model prog w) A (.call (.ref fI) ⟨[.ref (h.objs.size + 1)], kw⟩) (fun r s' => match r with | .ok (.ret v) => v = .none ∧ Q (.done (.ret (.ref (h.objs.size + 1)))) s' | .ok _ => False | .error e => E e s')
      ⟨(h.push (PySem.W.kdv_tup [])).push (PySem.HandSPX.excO C h.objs.size), g, d, t, os⟩) :
    wpAny (model prog w) A (Builtin.«type.__call__» ⟨[.ref C], kw⟩) Q E ⟨h, g, d, t, os⟩ := by
  repeat (first | with_reducible refine wpAny_loadPart_at hC ?_ | with_reducible refine wpAny_madeBy_exc hC ?_ | wp_step)
  refine codeAny_call_builtin_code (Code.quiet_builtin _ F.quiet) (kw_check F hT hC ?_)
  refine kw_new F hT hC ?_
  show wpAny _ _ _ _ _ _
  have kp : ∀ b o, h.get? b = some o → ((h.push (PySem.W.kdv_tup [])).push (PySem.HandSPX.excO C h.objs.size)).get? b = some o := fun b o z => Heap.get?_push_of_some _ (Heap.get?_push_of_some _ z)
  have c1 := kp _ _ hC
  have x1 : ((h.push (PySem.W.kdv_tup [])).push (PySem.HandSPX.excO C h.objs.size)).get? (h.objs.size + 1) = some (PySem.HandSPX.excO C h.objs.size) := by heap_get
  have own : (Value.ref C :: bm).contains (.ref C) = true := by simp
  have i1 := hi.keeps kp
  have b1 := (hb (.ref (h.objs.size + 1))).keeps kp
  unfold isInstance
  repeat (first | with_reducible refine wpAny_loadPart_at x1 ?_ | (with_reducible refine wpAny_isSubtype_exc c1 ?_; rw [own]) | wp_step)
  show wpAny _ _ (typeLookup (.ref C) _) _ _ _
  refine i1.at ?_
  refine wpAny_holding (wpAny_bind (b1.at ?_))
  refine wpAny_bind (PySem.wpAny_call (codeAny_mono hq ?_))
  intro r s' z
  match r, z with
  | .error e, z => exact z
  | .ok (.ret v), ⟨ev, z⟩ =>
    subst ev
    first
      | exact wpAny_pure (wpAny_pure z)
      | (wp_walk; exact z)
theorem kw_call (F : ExcBaseFacts B newId initId bmB) (hT : ∀ Y : String, bm.contains (.type Y) = bmB.contains (.type Y)) {fI : Addr} (hC : h.get? C = some (excClassObj nm q C N bs bm hdct sn sub ab col dd k0 k1 k2 k3 k5 newId))
    (hi : PySem.W.Looks (model prog w) h (typeLookup (.ref C) "__init__") (some (.ref fI))) (hb : ∀ self, PySem.W.Looks (model prog w) h (bindSpecial (.ref fI) self) (.ref fI, [self]))
    (hq : codeAny (model prog w) (A.under (.builtin "type.__call__" ⟨[.ref C], kw⟩)) (.call (.ref fI) ⟨[.ref (h.objs.size + 1)], kw⟩) (PySem.W.InitBack (h.objs.size + 1) R) ⟨(h.push (PySem.W.kdv_tup [])).push (PySem.HandSPX.excO C h.objs.size), g, d, t, os⟩) :
    codeAny (model prog w) A (.call (.ref C) ⟨[], kw⟩) R ⟨h, g, d, t, os⟩ := by
  have f1 := PySem.tc_lookup
  have f2 := PySem.tc_bind (.ref C)
  have ty : (⟨h, g, d, t, os⟩ : Shared).TypeIs (.ref C) "type" := ⟨_, hC, rfl⟩
  refine codeAny_of_tree ?_
  show wpAny _ _ (callAny (.ref C) _) _ _ _
  repeat (any_goals (first | assumption | with_reducible refine wpAny_loadPart_at hC ?_ | wp_step))
  refine ⟨rfl, ?_⟩
  refine codeAny_call_builtin_at (Code.quiet_builtin _ (by decide +kernel)) entry_typeCall (wpAny_check_type_call_sub hC (kw_type F hT hC hi hb ?_))
  refine codeAny_mono hq ?_
  intro r s' z
  match r, z with
  | .error e, z => exact z
  | .ok (.ret v), z => exact z
end
end G
set_option Elab.async false
set_option linter.all false
namespace G
open PySem PySem.Spec PyProof.Rows L2
structure MkXK (P : Program) (w : World) (K : PySem.W.Frag) (mg : Str → Option Value) (base : Heap) (x : Str) (C : Addr) (k : Nat) (ps : List Str) (ks : List Str) (g : {α : Type} → List α → List α → List α) (sp : Sp) : Prop where
  ex : ∃ f fd, FG P w K mg base CX0 k f fd ps sp ∧ PySem.W.findIn K (.ref C) "__init__" = some (some (.ref f)) ∧ PySem.W.typeIn K (.ref f) = some (.type "function") ∧ mg x = some (.ref C) ∧ KB K fd ps 1 ks g
def tXmkK (C : Addr) (nk : Nat) (g : List V → List V → List V) (sp : Sp) (tk : TA) : TE := fun σ H Q => tk σ H fun zs H1 => zs.length = nk ∧ ∀ a, H1 a = none → sp (g [.ref a] zs) (upd H1 a (exo a C none)) (fun v H2 => v = .non ∧ Q (.ref a) H2) E0
section
variable {X : Cx} {k : Nat} {C : Addr} {ps ks : List Str} {sp : Sp} {x : Str} {p pos : Pos} {kws : List Keyword} {tk : TA} {g : {α : Type} → List α → List α → List α}
/-- an exception has just been made -/
theorem Inv.born {pins : List (Addr × Obj)} {σ : L2.St} {H : Hp} {s : Shared} {us : List Value} (I : Inv X pins σ H s) :
    Inv X pins σ (upd H (s.heap.objs.size + 1) (exo (s.heap.objs.size + 1) C none)) { s with heap := (s.heap.push (PySem.W.kdv_tup us)).push (PySem.HandSPX.excO C s.heap.objs.size) } := by
  have kp : ∀ b o, s.heap.get? b = some o → ((s.heap.push (PySem.W.kdv_tup us)).push (PySem.HandSPX.excO C s.heap.objs.size)).get? b = some o := fun b o z => Heap.get?_push_of_some _ (Heap.get?_push_of_some _ z)
  obtain ⟨hp, g, dr, tk, os⟩ := s
  have at_ : ((hp.push (PySem.W.kdv_tup us)).push (PySem.HandSPX.excO C hp.objs.size)).get? (hp.objs.size + 1) = some (PySem.HandSPX.excO C hp.objs.size) := by heap_get
  exact I.laid (t' := tk) (a := hp.objs.size + 1) (o := exo (hp.objs.size + 1) C none) kp (Nat.le_succ _) (exo_ok at_)
theorem pe_xmkK (T : Xc X.K C) (M : MkXK X.prog X.w X.K X.mg X.base x C k ps ks g sp) (gd : X.A.guards = some []) (hr : Room (k + 1) X.A) (hg : Gl X x) (hkw : PK X kws tk) (hdb : (x == ("__debug__" : Str)) = false := by decide)
    (hall : (backToKw pos (keywordEach kws X.env)).all (·.1.isSome) = true := by rfl) (hks : (backToKw pos (keywordEach kws X.env)).filterMap (·.1) = ks := by rfl)
    (hpl : ((backTo pos (starEach [] X.env)).any (·.1) || (backToKw pos (keywordEach kws X.env)).any (·.1.isNone)) = false := by rfl) :
    PE X (.Call (.Name x p) [] kws pos) (tXmkK C ks.length g sp tk) := by
  obtain ⟨f, fd, F, fi, ft, hm, hb⟩ := M.ex
  obtain ⟨B, n1, n2, R, nm, q, N, bs, sn, sub, ab, col, dd, k0, k1, k2, k3, k5, cs, hC⟩ := T.cls
  refine ⟨fun pins s σ H Q I h => wpAny_Call_Name_kw (ld_glob I hg hm ?_ hdb)⟩
  refine PySem.W.callWith_KW0 (h₀ := X.base) I.mod.kin T.kC hall (thn (hkw.run pos pins s σ H _ I h) ?_) hpl
  rintro ws s1 ⟨zs, H1, I1, rz, lz, q1⟩
  rw [hks]
  refine ⟨I1.kIn, ?_⟩
  show wpAny _ _ (call (.ref C) [] (ks.zip ws)) _ _ _
  obtain ⟨hp, gs, dr, tk, os⟩ := s1
  have hq := q1 _ (I1.hok.fresh (Nat.le_succ _))
  have J := Inv.born (C := C) (us := []) I1
  have r0 : Vals [V.ref (hp.objs.size + 1)] [Value.ref (hp.objs.size + 1)] := .cons rfl .nil
  refine PySem.wpAny_call (kw_call R.base (fun Y => over_has Y cs) (I1.kIn _ _ hC) (PySem.W.looks_findIn I1.kIn fi) (fun self => PySem.W.bind_fn I1.kIn self ft)
    (codeAny_mono (F.go _ (guards_make (C := C) (us := []) (kw := ks.zip ws) gd) X.stack _ _ _ _ _ _ E0 (hr.make C [] _) (J.env0.make C [] _) (hb.ar _ [.ref (hp.objs.size + 1)] ws rfl (by rw [← rz.length, lz])) (hb.re r0 rz) hq) fun z s' hz => ?_))
  cases z with
  | error er => exact pass0 pins σ _ _ er s' J hz
  | ok fl =>
    cases fl with
    | ret u =>
      obtain ⟨v, H', J', rv, rfl, qv⟩ := J.after hz
      exact ⟨rv, .ref (hp.objs.size + 1), H', J', rfl, qv⟩
    | next => exact hz.elim
    | brk => exact hz.elim
    | cont => exact hz.elim
/-- C(), C without an own __init__ -/
theorem pe_xmk0 {bmB : List Value} {B newId initId : String} (F : ExcBaseFacts B newId initId bmB) (q : PySem.W.excIn X.K C bmB newId = true) (gC : X.mg x = some (.ref C)) (kC : PySem.W.keepIn X.K (.ref C) = true) (hg : Gl X x) (hdb : (x == ("__debug__" : Str)) = false := by decide) :
    PE X (.Call (.Name x p) [] [] pos) (fun σ H Q => ∀ a, H a = none → Q (.ref a) (upd H a (exo a C none))) := by
  refine ⟨fun pins s σ H Q I h => wpAny_Call_Name_kw (ld_glob I hg gC ?_ hdb)⟩
  refine PySem.W.callWith_K0 I.kIn kC ?_
  obtain ⟨bm, N, nm, qn, bs, hdct, sn, sub, ab, col, dd, k0, k1, k2, k3, k5, mN, hC, hN, hni, T⟩ := exc_obj I.kIn q
  refine wpAny_call_exc_subT F T hC hN hni (fun h' a hm => ?_) (by show 0 ≤ sizeLine; exact Nat.zero_le _)
  have hn : H a = none := I.hok.gone hm.new
  obtain ⟨t, ht, _, _⟩ := hm.there
  exact ⟨.ref a, upd H a (exo a C none), I.laidN hm.keeps hm.new hn (exo_ok ht), rfl, h a hn⟩
end
end G
set_option Elab.async false
set_option linter.all false
/-! data with dicts: repr, and a value beside itself -/
namespace G
open PySem PySem.Spec PyProof.Rows L2
def keyD : Key → PyData
  | .inl i => .int i
  | .inr z => .str z
mutual
inductive Dy (H : Hp) : V → PyData → Prop
  | non : Dy H .non .none
  | bl (b : Bool) : Dy H (.bl b) (.bool b)
  | int (i : Int) : Dy H (.int i) (.int i)
  | str (z : Str) : Dy H (.str z) (.str z)
  | lst {a : Addr} {xs : List V} {ds : List PyData} : a ≠ sysModules → H a = some (.lst xs) → DyAll H xs ds → Dy H (.ref a) (.list ds)
  | tup {a : Addr} {xs : List V} {ds : List PyData} : H a = some (.tup xs) → DyAll H xs ds → Dy H (.ref a) (.tuple ds)
  | dct {a : Addr} {kvs : List (Key × V)} {kds : List (PyData × PyData)} : H a = some (.dK kvs) → kds.map (·.1) = kvs.map (fun p => keyD p.1) → DyAll H (kvs.map (·.2)) (kds.map (·.2)) → Dy H (.ref a) (.dict kds)
inductive DyAll (H : Hp) : List V → List PyData → Prop
  | nil : DyAll H [] []
  | cons {v : V} {vs : List V} {d : PyData} {ds : List PyData} : Dy H v d → DyAll H vs ds → DyAll H (v :: vs) (d :: ds)
end
theorem key_reads {P : Program} {w : World} {h : Heap} : ∀ {es : List DictEntry} {vs : List (Key × Value)} {ks : List PyData}, Pairs (mixKind P w) es vs → ks = vs.map (fun p => keyD p.1) → ReadsAll h (es.map (·.key)) ks []
  | _, _, _, .nil, rfl => .nil
  | e :: es, kv :: vs, _, .cons h1 h2 hr, rfl => by
    have ih := key_reads (h := h) hr rfl
    have q : Reads h e.key (keyD kv.1) [] := by
      rcases keyIs_shape (show keyIs kv.1 e.key = true from h1) with ⟨i, t, e1, e2⟩ | ⟨x, t, e1, e2⟩
      · rw [e1, e2]
        exact .int i t
      · rw [e1, e2]
        exact .str x t
    exact ReadsAll.cons (as := []) (bs := []) q ih
theorem val_pairs {P : Program} {w : World} : ∀ {es : List DictEntry} {vs : List (Key × Value)}, Pairs (mixKind P w) es vs → es.map (·.val) = vs.map (·.2)
  | _, _, .nil => rfl
  | _, _, .cons _ h2 hr => by
    rw [List.map_cons, List.map_cons, h2, val_pairs hr]
theorem kv_keys : ∀ {kvs : List (Key × V)} {vs : List (Key × Value)}, KV kvs vs → kvs.map (fun p => keyD p.1) = vs.map (fun p => keyD p.1) ∧ Vals (kvs.map (·.2)) (vs.map (·.2))
  | _, _, .nil => ⟨rfl, .nil⟩
  | _, _, .cons ⟨e, r⟩ t => by
    obtain ⟨i1, i2⟩ := kv_keys t
    exact ⟨by rw [List.map_cons, List.map_cons, e, i1], .cons r i2⟩
section
variable {X : Cx} {pins : List (Addr × Obj)} {σ : L2.St} {H : Hp} {s : Shared}
mutual
theorem Dy.reads (I : Inv X pins σ H s) : ∀ {v : V} {d : PyData}, Dy H v d → ∀ u : Value, RelV v u → ∃ as, Reads s.heap u d as ∧ sysModules ∉ as
  | _, _, .non, _, r => by
    cases r
    exact ⟨_, .none, by simp⟩
  | _, _, .bl b, _, r => by
    cases r
    exact ⟨_, .bool b, by simp⟩
  | _, _, .int i, _, r => by
    obtain ⟨t, rfl⟩ := r
    exact ⟨_, .int i t, by simp⟩
  | _, _, .str z, _, r => by
    obtain ⟨t, rfl⟩ := r
    exact ⟨_, .str z t, by simp⟩
  | _, _, .lst ne e ha, _, r => by
    cases r
    obtain ⟨its, n, rv, ho, _⟩ := I.lst e
    obtain ⟨as, q, na⟩ := Dy.readsAll I ha its rv
    exact ⟨_, .list ho rfl rfl (by simpa using q), fun m => (List.mem_cons.mp m).elim (fun z => ne z.symm) na⟩
  | _, _, .tup e ha, _, r => by
    cases r
    obtain ⟨its, rv, ⟨o, ho, hc, n, hd⟩, _⟩ := I.tuple (SqT.of e)
    obtain ⟨as, q, na⟩ := Dy.readsAll I ha its rv
    exact ⟨_, .tuple ho hc hd q, na⟩
  | _, _, .dct e ek ha, _, r => by
    cases r
    obtain ⟨z, ns, vs, rel, o, es, ep, ho, ex, hd, hk, pr, nd⟩ := dk_of I.hok e
    obtain ⟨k1, k2⟩ := kv_keys rel
    obtain ⟨bs, q, na⟩ := Dy.readsAll I ha _ k2
    refine ⟨_, .dict ho ex.1 hd (key_reads pr (by rw [ek, k1])) (by rw [val_pairs pr]; exact q), ?_⟩
    intro m
    rcases List.mem_append.mp m with m | m
    · rcases List.mem_cons.mp m with m | m
      · rw [← m] at ns
        simp at ns
      · cases m
    · exact na m
theorem Dy.readsAll (I : Inv X pins σ H s) : ∀ {vs : List V} {ds : List PyData}, DyAll H vs ds → ∀ us : List Value, Vals vs us → ∃ as, ReadsAll s.heap us ds as ∧ sysModules ∉ as
  | _, _, .nil, _, r => by
    cases r
    exact ⟨_, .nil, by simp⟩
  | _, _, .cons h1 h2, _, r => by
    cases r with
    | cons r1 r2 =>
      obtain ⟨as, q1, n1⟩ := Dy.reads I h1 _ r1
      obtain ⟨bs, q2, n2⟩ := Dy.readsAll I h2 _ r2
      exact ⟨_, .cons q1 q2, fun m => (List.mem_append.mp m).elim n1 n2⟩
end
end
theorem value_here : ∀ (vs : List (Key × Value)), (vs.map (·.1)).Nodup → ∀ {k : Key} {v : Value}, (k, v) ∈ vs → valueAt vs k = some v
  | [], _, _, _, m => by cases m
  | (k0, v0) :: r, nd, k, v, m => by
    have nd' : (k0 :: r.map (·.1)).Nodup := nd
    obtain ⟨n1, n2⟩ := List.nodup_cons.mp nd'
    rcases List.mem_cons.mp m with e | m
    · obtain ⟨rfl, rfl⟩ := Prod.mk.inj e
      simp [valueAt]
    · have ne : ¬ k0 = k := fun e => n1 (by rw [e]; exact List.mem_map.mpr ⟨_, m, rfl⟩)
      have ih := value_here r n2 m
      unfold valueAt at ih ⊢
      rw [List.find?_cons, show (decide (k0 = k)) = false from decide_eq_false ne]
      exact ih
/-- repr(x) of such data -/
def rReprY : List V → Hp → VK → Prop := fun xs H Q => ∃ x d, xs = [x] ∧ Dy H x d ∧ d.showable = true ∧ d.depth ≤ 40 ∧ d.shown.length ≤ sizeLine ∧ Q (.str d.shown) H
section
variable {X : Cx}
theorem call_reprY {k : Nat} (gd : X.A.guards = some []) (hr : Room k X.A) : CallR X (.builtin "repr") rReprY := by
  intro pins s σ H xs us Q I r h
  obtain ⟨x, d, rfl, hd, sh, dp, sz, q⟩ := h
  obtain ⟨u, rfl, ru⟩ := vals1 r
  obtain ⟨as, rd, na⟩ := hd.reads I _ ru
  have un := hr.units
  have fin : ∀ h' t tk, (∀ b o, s.heap.get? b = some o → h'.get? b = some o) → EP X pins σ Q (.str d.shown t) { s with heap := h', toks := tk } := fun h' t tk kp => ⟨.str d.shown, H, I.kept kp, ⟨t, rfl⟩, q⟩
  have same : ∀ b o, s.heap.get? b = some o → s.heap.get? b = some o := fun _ _ z => z
  cases hd with
  | non =>
    cases ru
    exact PySem.P.repr_of_none (fin s.heap _ _ same)
  | bl b =>
    cases ru
    exact PySem.P.repr_of_bool (fin s.heap _ _ same)
  | int i =>
    obtain ⟨t, rfl⟩ := ru
    exact PySem.P.repr_of_int (by simpa [PyData.showable] using sh) (fin s.heap _ _ same)
  | str z =>
    obtain ⟨t, rfl⟩ := ru
    exact PySem.P.repr_of_str (fin s.heap _ _ same) (by simpa only [PyData.shown] using sz)
  | lst h0 h1 h2 =>
    cases ru
    exact repr_of_reads' rd sh (fun _ => na) gd (by omega) same fin sz
  | tup h1 h2 =>
    cases ru
    exact repr_of_reads' rd sh (fun _ => na) gd (by omega) same fin sz
  | dct h1 h2 h3 =>
    cases ru
    exact repr_of_reads' rd sh (fun _ => na) gd (by omega) same fin sz
/-- x == x, x a list, a tuple or a dict -/
def rEqMe : R2 := fun x y H Q => ∃ a, x = .ref a ∧ y = .ref a ∧ ((∃ xs, H a = some (.lst xs)) ∨ (∃ xs, H a = some (.tup xs)) ∨ ∃ kvs, H a = some (.dK kvs)) ∧ Q (.bl true) H
theorem op_eqMe {k : Nat} (hr : Room k X.A) : OpR X (compareOp .Eq) rEqMe := by
  intro pins s σ H x y v u Q I rx ry h
  obtain ⟨a, rfl, rfl, kind, q⟩ := h
  cases rx
  cases ry
  have un := hr.units
  have fin : ∀ b : Bool, b = true → EP X pins σ Q (.bool b) s := fun b e => ⟨.bl b, H, I, rfl, by rw [e]; exact q⟩
  rcases kind with ⟨xs, e⟩ | ⟨xs, e⟩ | ⟨kvs, e⟩
  · obtain ⟨its, n, rv, ho, _⟩ := I.lst e
    have hl : s.heap.IsList a its.toArray := ⟨_, ho, rfl, n, rfl⟩
    exact PySem.W.eq_listsT (n := 0) (e := fun _ => true) hl hl rfl (fun j h1 h2 => .same) (by omega) (fin _ (by simp))
  · obtain ⟨its, rv, ht, _⟩ := I.tuple (SqT.of e)
    exact PySem.W.eq_tuplesT (n := 0) (e := fun _ => true) ht ht (fun j h1 h2 => .same) (by omega) (fin _ (by simp))
  · obtain ⟨z, ns, vs, rel, dd⟩ := dk_of I.hok e
    refine PySem.W.eq_dictsT (knd := mixKind X.prog X.w) (n := 0) (e := fun _ => true) ns ns dd dd (fun k v y m hv => ?_) (by omega) (fin _ ?_)
    · obtain ⟨o, es, ep, ho, ex, hd, hk, pr, nd⟩ := dd
      rw [value_here vs nd m] at hv
      obtain rfl := Option.some.inj hv
      exact .same
    · obtain ⟨o, es, ep, ho, ex, hd, hk, pr, nd⟩ := dd
      rw [Bool.and_eq_true]
      refine ⟨beq_iff_eq.mpr rfl, List.all_eq_true.mpr fun p hp => ?_⟩
      rw [value_here vs nd (k := p.1) (v := p.2) hp]
      rfl
/-- [e, ..]: the list stands where sys.modules does not -/
def tLstN (t : TA) : TE := fun σ H Q => t σ H fun xs H1 => xs.length ≤ sizeLine ∧ ∀ p, H1 p = none → p ≠ sysModules → Q (.ref p) (upd H1 p (.lst xs))
theorem pe_lstN {es : List Expr} {t : TA} {pos : Pos} (h : PA X es t) : PE X (.List es pos) (tLstN t) := by
  refine ⟨fun pins s σ H Q I hq => wpAny_List_spliced (thn (h.run pos pins s σ H _ I hq) ?_)⟩
  rintro us s1 ⟨xs, H1, I1, r, z, q⟩
  have big : s1.heap.objs.size ≠ sysModules := fun e => by
    have lt := I1.big
    rw [e] at lt
    exact Nat.lt_irrefl _ lt
  refine ⟨by rw [← r.length]; exact z, .ref s1.heap.objs.size, upd H1 s1.heap.objs.size (.lst xs), I1.laid (t' := s1.toks) (fun b u e => Heap.get?_push_of_some _ e) (Nat.le_refl _) ⟨z, us, 0, r, Heap.get?_push_size _ rfl⟩, rfl, q _ (I1.hok.fresh (Nat.le_refl _)) big⟩
end
end G
set_option Elab.async false
set_option linter.all false
namespace G
open PySem PySem.Spec PyProof.Rows L2
/-- bs.count(k), bools -/
def rCountB : V → List V → Hp → VK → Prop := fun x xs H Q => ∃ (l : Addr) (bs : List Bool) (k : Bool), x = .ref l ∧ xs = [.bl k] ∧ H l = some (.lst (bs.map V.bl)) ∧ Q (.int ((bs.count k : Nat) : Int)) H
theorem bools_read {h : Heap} : ∀ {bs : List Bool} {us : List Value}, Vals (bs.map V.bl) us → ReadsAll h us (bs.map PyData.bool) []
  | [], _, .nil => .nil
  | b :: r, _, .cons e t => by
    cases e
    exact ReadsAll.cons (as := []) (bs := []) (.bool b) (bools_read t)
theorem countB : ∀ (k : Bool) (bs : List Bool), countIn (.bool k) (bs.map PyData.bool) = ((bs.count k : Nat) : Int)
  | k, [] => rfl
  | k, b :: r => by
    have ih := countB k r
    rw [List.map_cons, List.count_cons]
    simp only [countIn, same, ih]
    cases b <;> cases k <;> simp <;> omega
theorem mt_countB {X : Cx} : MtM X "list.count" rCountB := by
  intro pins s σ H x vs v us Q I rx rv h
  obtain ⟨l, bs, k, rfl, rfl, hl, q⟩ := h
  cases rx
  obtain ⟨u, rfl, ru⟩ := rv.one
  cases ru
  obtain ⟨its, n, r, ho, _⟩ := I.lst hl
  refine count_list_bools ⟨_, ho, rfl, n, rfl⟩ (bools_read (h := s.heap) r) ?_ ?_
  · rw [List.all_map]
    exact List.all_eq_true.mpr fun b _ => rfl
  · rw [countB]
    exact ⟨.int _, H, I.tok _, ⟨_, rfl⟩, q⟩
end G
set_option Elab.async false
set_option linter.all false
namespace Lk
open PySem PySem.Spec PyProof.Rows L2 G
def top (i : Nat) : Stmt := PySem.Challenge.pw_overlapturns_k01_limits_and_errors.main.body.getD i (.Pass ⟨0, 0, 0, 0⟩)
abbrev s__law_purse : Stmt := top 32
theorem sc__law_purse : FnScope ["cells", "k", "mixed", "cell", "own"] ["cells", "k"] (defScope s__law_purse) := ⟨rfl, rfl, rfl, by decide +kernel, rfl, by decide +kernel, by decide +kernel⟩
abbrev s__law_draw : Stmt := top 33
theorem sc__law_draw : FnScope ["purse", "many", "mixed", "digit"] ["purse", "many"] (defScope s__law_draw) := ⟨rfl, rfl, rfl, by decide +kernel, rfl, by decide +kernel, by decide +kernel⟩
abbrev s__law_signs : Stmt := top 34
theorem sc__law_signs : FnScope ["purse", "some", "size", "k"] ["purse"] (defScope s__law_signs) := ⟨rfl, rfl, rfl, by decide +kernel, rfl, by decide +kernel, by decide +kernel⟩
abbrev s__law_names : Stmt := top 35
theorem sc__law_names : FnScope ["purse", "many", "used", "barred", "found", "k", "stem", "fresh", "j"] ["purse", "many", "used"] (defScope s__law_names) := ⟨rfl, rfl, rfl, by decide +kernel, rfl, by decide +kernel, by decide +kernel⟩
/-- a purse: three ints, the first one small, the second one not negative -/
def Pur (H : Hp) (p : Addr) : Prop := ∃ a b c : Int, H p = some (.lst [.int a, .int b, .int c]) ∧ 0 ≤ a ∧ a < 2147483629 ∧ 0 ≤ b
/-- all that was tracked stands, but what stands at p -/
def But (p : Addr) (H H' : Hp) : Prop := ∀ b o, b ≠ p → H b = some o → H' b = some o
theorem But.refl (p : Addr) (H : Hp) : But p H H := fun _ _ _ h => h
theorem But.trans {p : Addr} {H H1 H2 : Hp} (a : But p H H1) (b : But p H1 H2) : But p H H2 := fun c o n h => b c o n (a c o n h)
theorem But.same {p : Addr} {H H1 : Hp} (a : Same H H1) : But p H H1 := fun c o _ h => a c o h
theorem But.upd {p : Addr} {H H1 : Hp} {o : HO} (a : But p H H1) : But p H (upd H1 p o) := fun c u n h => by rw [upd_ne n]; exact a c u n h
theorem But.new {p q : Addr} {H H1 : Hp} {o : HO} (a : But p H H1) (h : H1 q = none) : But p H (L2.upd H1 q o) := fun c u n e => by
  have e1 := a c u n e
  rw [upd_ne (ne_of_none e1 h)]
  exact e1
theorem Same.new {q : Addr} {H H1 : Hp} {o : HO} (a : Same H H1) (h : H1 q = none) : Same H (L2.upd H1 q o) := fun c u e => by
  have e1 := a c u e
  rw [upd_ne (ne_of_none e1 h)]
  exact e1
theorem Pur.mono {H H' : Hp} {p : Addr} (h : Pur H p) (s : Same H H') : Pur H' p := by
  obtain ⟨a, b, c, e, r⟩ := h
  exact ⟨a, b, c, s _ _ e, r⟩
theorem Pur.new {H : Hp} {p q : Addr} {o : HO} (h : Pur H p) (hn : H q = none) : Pur (L2.upd H q o) p := h.mono (Same.new (Same.refl H) hn)

local macro_rules | `(tactic| walk_at "rd") => `(tactic| repeat (first
  | (refine ⟨_, rfl, ?_⟩)
  | (refine ⟨_, _, rfl, rfl, Or.inr ⟨by decide, by decide⟩, ?_⟩)
  | (refine ⟨_, _, rfl, rfl, Or.inl ⟨by decide, by decide⟩, ?_⟩)
  | (refine ⟨_, _, rfl, rfl, (by show (0 : Int) < _; decide), ?_⟩)
  | (refine ⟨_, _, rfl, rfl, (by decide), ?_⟩)
  | (refine ⟨_, _, rfl, rfl, ?_⟩)
  | (refine .inl ⟨_, rfl, ?_⟩)))
theorem lz {n : Nat} (h : n ≤ 64) : n ≤ sizeLine := Nat.le_trans h (by decide)
theorem cut4 {ns : List Int} {i : Nat} {x : V} (h : (cutV (ns.map V.int) none (some 4))[i]? = some x) : ∃ z : Int, x = .int z := by
  have m := List.mem_of_getElem? h
  unfold cutV at m
  have m2 := List.mem_of_mem_drop (List.mem_of_mem_take m)
  obtain ⟨z, _, rfl⟩ := List.mem_map.mp m2
  exact ⟨z, rfl⟩
theorem nsAt {ns : List Int} {k : Nat} (h : k < (ns.map V.int).length) : ∃ z : Int, atI (ns.map V.int) (k : Int) = some (.int z) := by
  have h' : k < ns.length := by simpa using h
  exact ⟨ns[k], atI_nat (by simp [h'])⟩
structure Txt (K : PySem.W.Frag) (mg : Str → Option Value) : Prop where
  b_int : mg "int" = none
  b_len : mg "len" = none
  b_abs : mg "abs" = none
  b_divmod : mg "divmod" = none
  b_range : mg "range" = none
def spPurse (K : PySem.W.Frag) : Sp := fun vs H Q _ => ∃ (a : Addr) (ns : List Int) (k : Nat), vs = [.ref a, .int k] ∧ SqL K H a (ns.map V.int) ∧ k < 64 ∧
  ∀ p H', H p = none → Same H H' → Pur H' p → Q (.ref p) H'
def spDraw : Sp := fun vs H Q _ => ∃ (p : Addr) (m : Int), vs = [.ref p, .int m] ∧ Pur H p ∧ 0 < m ∧ m < 1073741824 ∧
  ∀ d H', 0 ≤ d → d < m → Pur H' p → But p H H' → Q (.int d) H'
section
variable {P : Program} {w : World} {K : PySem.W.Frag} {mg : Str → Option Value} {base : Heap}
theorem ok_purse {f : Addr} {fd : FuncData} (F : Fun K "_law_purse" "_law_purse" s__law_purse f fd) (T : Txt K mg) : FG P w K mg base CX0 1 f fd ["cells", "k"] (spPurse K) := by
  refine fun_okG F sc__law_purse (fun vs H Q E h => ?_) (fun cdv A outer s H vs Q E gd hr h => ?_)
  · obtain ⟨_, _, _, rfl, _⟩ := h
    rfl
  have nd := sc__law_purse.nd
  obtain ⟨a, ns, k, rfl, hS, hk, q⟩ := h
  -- cells 0, k 1, mixed 2, cell 3, own 4
  refine ⟨_, (pss_cons (ps_set (i := 2) nd rfl (Or.inl rfl) (pe_op op_add pe_int (pe_op op_mul pe_int (pv 1))))
      (pss_cons (ps_for PassesOwn.never rfl (pi_list (pe_slice sl_list (pv 0) po_none (po_some pe_int))) (pg_name (i := 3) nd rfl (Or.inl rfl))
        (pss_one (ps_set (i := 2) nd rfl (Or.inl rfl) (pe_op op_mod (pe_op op_add (pe_op op_add (pe_op op_mul (pv 2) pe_int) (pe_op op_mul (pe_op op_mod (pe_callTy call_int1 (by rfl) T.b_int (by decide +kernel) (pa_cons (pv 3) pa_nil)) pe_int) (pe_op op_add (pv 1) pe_int))) pe_int) pe_int))))
      (pss_cons (ps_set (i := 4) nd rfl (Or.inl rfl) (pe_ifExp (pt_cmpR op_lt (pv 1) (pe_callB call_len_seq (by rfl) T.b_len (by decide +kernel) (pa_cons (pv 0) pa_nil)) (nomark _)) (pe_callTy call_int1 (by rfl) T.b_int (by decide +kernel) (pa_cons (pe_ixL K (pv 0) (pv 1)) pa_nil)) (pv 2)))
      (pss_one (ps_ret (pe_lst (pa_cons (pe_op op_mod (pe_callTy call_int1 (by rfl) T.b_int (by decide +kernel) (pa_cons (pv 4) pa_nil)) pe_int) (pa_cons (pe_ifExp (PW.pt (pw_or (pt_cmpR op_lt (pv 4) pe_int (nomark _)) (pw_or1 (pt_cmpR op_ge (pv 4) (pe_op op_pow pe_int pe_int) (nomark _))))) (pe_callB call_abs (by rfl) T.b_abs (by decide +kernel) (pa_cons (pv 4) pa_nil)) pe_int) (pa_cons (pv 1) pa_nil))))))))), ?_⟩
  have fin : ∀ (z : Int) (H2 : Hp) (m : Int) (v : Option V), Same H H2 → (tRet (tLst (tCons (tOp (rI (fun x j => 0 < j) fun i j => V.int (i % j)) (tCB (fun xs H Q => (∃ i, xs = [V.int i] ∧ Q (V.int i) H) ∨ ∃ k, xs = [V.bl k] ∧ Q (V.int (if k = true then 1 else 0)) H) (tCons (tVar 4) tNil)) (tC (V.int 2147483629)))
      (tCons (tIf (tOr (tTest (tOp (rI0 fun i j => V.bl (decide (i < j))) (tVar 4) (tC (V.int 0)))) (tTest (tOp (rI0 fun i j => V.bl (decide (j ≤ i))) (tVar 4) (tOp (rI CPow fun i j => V.int (i ^ j.toNat)) (tC (V.int 10)) (tC (V.int 18))))))
        (tCB (fun xs H Q => ∃ i, xs = [V.int i] ∧ Q (V.int (if i < 0 then -i else i)) H) (tCons (tVar 4) tNil)) (tC (V.int 0))) (tCons (tVar 1) tNil))))) { nx := fun _ H' => Q .non H', rt := Q } [some (.ref a), some (.int k), some (.int m), v, some (.int z)] H2 := by
    intro z H2 m v s1
    have last : ∀ e : Int, 0 ≤ e → ∀ p, H2 p = none → Q (.ref p) (upd H2 p (.lst [.int (z % 2147483629), .int e, .int k])) := fun e he p hp =>
      q p _ (s1.free hp) (Same.new s1 hp) ⟨_, _, _, upd_same, Int.emod_nonneg _ (by decide), Int.emod_lt_of_pos _ (by decide), he⟩
    walk_at "rd"
    refine ite2 (fun c => ?_) (fun c => ?_)
    · refine ⟨_, rfl, _, rfl, _, rfl, lz (by simp), last _ (by split <;> omega)⟩
    · refine ⟨_, rfl, _, _, rfl, rfl, ⟨by decide, by decide, by decide⟩, _, _, rfl, rfl, _, rfl, ?_⟩
      refine ite2 (fun d => ?_) (fun d => ?_)
      · refine ⟨_, rfl, _, rfl, _, rfl, lz (by simp), last _ (by split <;> omega)⟩
      · refine ⟨_, rfl, lz (by simp), last _ (Int.le_refl _)⟩
  walk_at "rd"
  refine ⟨_, _, rfl, hS, fun l hl => ?_⟩
  refine ⟨l, rfl, ⟨_, SqL.of upd_same⟩, for_list (K := K) (a := l) (xs := cutV (ns.map V.int) none (some 4)) (fun i σ H2 => ∃ (m : Int) (v : Option V), σ = [some (.ref a), some (.int k), some (.int m), v, none] ∧ Same H H2 ∧ H2 l = some (.lst (cutV (ns.map V.int) none (some 4))))
      ⟨_, none, rfl, Same.new (Same.refl H) hl, upd_same⟩ (fun i σ H2 _ ⟨_, _, _, _, s2⟩ => SqL.of s2) ?_ ?_⟩
  · rintro i x σ H2 hx ⟨m, v, rfl, s1, s2⟩
    obtain ⟨z, rfl⟩ := cut4 hx
    walk_at "rd"
    refine ⟨.inl ⟨?_, ?_⟩, ?_⟩
    · have := Int.emod_nonneg z (by decide : (1000003 : Int) ≠ 0); omega
    · have := Int.emod_lt_of_pos z (by decide : (0 : Int) < 1000003); omega
    walk_at "rd"
    exact ⟨_, _, rfl, s1, s2⟩
  · rintro σ H2 ⟨m, v, rfl, s1, s2⟩
    refine ⟨_, rfl, _, rfl, _, _, rfl, .inl (s1.seq hS), _, _, rfl, rfl, _, rfl, ?_⟩
    refine ite2 (fun c => ?_) (fun c => ?_)
    · obtain ⟨z, hz⟩ := nsAt (ns := ns) (k := k) (by simpa using c)
      refine ⟨_, rfl, _, rfl, _, _, _, _, rfl, rfl, s1.seq hS, hz, .inl ⟨_, rfl, ?_⟩⟩
      exact fin z _ m v s1
    · refine ⟨_, rfl, ?_⟩
      exact fin m _ m v s1
theorem ok_draw {f : Addr} {fd : FuncData} (F : Fun K "_law_draw" "_law_draw" s__law_draw f fd) (T : Txt K mg) : FG P w K mg base CX0 1 f fd ["purse", "many"] spDraw := by
  refine fun_okG F sc__law_draw (fun vs H Q E h => ?_) (fun cdv A outer s H vs Q E gd hr h => ?_)
  · obtain ⟨_, _, rfl, _⟩ := h
    rfl
  have nd := sc__law_draw.nd
  obtain ⟨p, m, rfl, ⟨a, b, c, hp, h0, h1, h2⟩, hm, hm2, q⟩ := h
  -- purse 0, many 1, mixed 2, digit 3
  refine ⟨_, (pss_cons (ps_asg (pe_op op_add (pe_ixL K (pv 0) pe_int) pe_int) (pg_sub (pv 0) pe_int set_list))
      (pss_cons (ps_set (i := 2) nd rfl (Or.inl rfl) (pe_op op_mod (pe_op op_add (pe_op op_add (pe_op op_mul (pe_callTy call_int1 (by rfl) T.b_int (by decide +kernel) (pa_cons (pe_ixL K (pv 0) pe_int) pa_nil)) pe_int) (pe_op op_mul pe_int (pe_ixL K (pv 0) pe_int))) pe_int) pe_int))
      (pss_cons (ps_asg (pe_op op_mod (pe_op op_add (pe_op op_add (pe_op op_mul (pv 2) (pv 2)) (pv 2)) pe_int) pe_int) (pg_sub (pv 0) pe_int set_list))
      (pss_cons (ps_if (pt_cmpR op_gt (pe_ixL K (pv 0) pe_int) pe_int (nomark _))
        (pss_cons (ps_asg (pe_callB call_divmod (by rfl) T.b_divmod (by decide +kernel) (pa_cons (pe_ixL K (pv 0) pe_int) (pa_cons (pv 1) pa_nil))) (pg_tup (by rfl) (pgs_cons (pg_sub (pv 0) pe_int set_list) (pgs_cons (pg_name (i := 3) nd rfl (Or.inl rfl)) pgs_nil))))
          (pss_one (ps_ret (pv 3))))
        pss_nil)
      (pss_one (ps_ret (pe_op op_mod (pe_op op_fdiv (pe_callTy call_int1 (by rfl) T.b_int (by decide +kernel) (pa_cons (pe_ixL K (pv 0) pe_int) pa_nil)) pe_int) (pv 1)))))))), ?_⟩
  have b1 : But p H H := But.refl _ _
  have upds : ∀ {H1 : Hp} {o u : HO}, L2.upd (L2.upd H1 p o) p u = L2.upd H1 p u := fun {H1 o u} => upd_upd
  -- purse[2] = purse[2] + 1
  refine ⟨_, rfl, _, _, _, _, rfl, rfl, SqL.of hp, rfl, _, _, rfl, rfl, _, rfl, _, _, _, _, rfl, rfl, hp, rfl, ?_⟩
  have e1 : (L2.upd H p (.lst ([V.int a, V.int b, V.int c].set 2 (V.int (c + 1))))) p = some (.lst [.int a, .int b, .int (c + 1)]) := upd_same
  -- mixed
  refine ⟨_, rfl, _, _, _, _, rfl, rfl, SqL.of e1, rfl, .inl ⟨_, rfl, _, _, rfl, rfl, .inl ⟨by omega, by omega⟩, ?_⟩⟩
  refine ⟨_, rfl, _, _, _, _, rfl, rfl, SqL.of e1, rfl, _, _, rfl, rfl, .inl ⟨by decide, by decide⟩, _, _, rfl, rfl, _, _, rfl, rfl, _, _, rfl, rfl, (by show (0 : Int) < _; decide), ?_⟩
  dsimp only
  generalize hx : (a * 48271 + 2654435 * (c + 1) + 17) % 2147483629 = x
  have x0 : 0 ≤ x := by rw [← hx]; exact Int.emod_nonneg _ (by decide)
  have x1 : x < 2147483629 := by rw [← hx]; exact Int.emod_lt_of_pos _ (by decide)
  -- purse[0]
  refine ⟨_, rfl, _, rfl, _, _, rfl, rfl, .inl ⟨by omega, by omega⟩, _, rfl, _, _, rfl, rfl, _, _, rfl, rfl, _, _, rfl, rfl, (by show (0 : Int) < _; decide), ?_⟩
  dsimp only
  generalize hy : (x * x + x + 40503) % 2147483587 = y
  have y0 : 0 ≤ y := by rw [← hy]; exact Int.emod_nonneg _ (by decide)
  have y1 : y < 2147483587 := by rw [← hy]; exact Int.emod_lt_of_pos _ (by decide)
  refine ⟨_, rfl, _, _, _, _, rfl, rfl, e1, rfl, ?_⟩
  rw [upds]
  have e2 : (L2.upd H p (.lst [V.int y, V.int b, V.int (c + 1)])) p = some (.lst [.int y, .int b, .int (c + 1)]) := upd_same
  -- if purse[1] > 0
  refine ⟨_, rfl, _, _, _, _, rfl, rfl, SqL.of e2, rfl, _, _, rfl, rfl, _, rfl, ?_⟩
  refine ite2 (fun d => ?_) (fun d => ?_)
  · -- purse[1], digit = divmod(purse[1], many)
    refine ⟨_, rfl, _, _, _, _, rfl, rfl, SqL.of e2, rfl, _, rfl, _, _, rfl, ⟨hm, hm2⟩, fun t ht => ?_⟩
    have np : p ≠ t := ne_of_none e2 ht
    refine ⟨_, _, rfl, SqT.of upd_same, rfl, _, _, rfl, ?_⟩
    refine ⟨_, rfl, _, _, _, _, rfl, rfl, (by rw [upd_ne np]; exact e2), rfl, ?_⟩
    refine ⟨_, _, rfl, rfl, ?_⟩
    refine ⟨_, rfl, ?_⟩
    refine q (b % m) _ (Int.emod_nonneg _ (by omega)) (Int.emod_lt_of_pos _ hm) ⟨y, b / m, c + 1, upd_same, y0, by omega, Int.ediv_nonneg h2 (by omega)⟩ ?_
    intro u o n e
    have e' : (L2.upd H p (.lst [V.int y, V.int b, V.int (c + 1)])) u = some o := by rw [upd_ne n]; exact e
    rw [upd_ne n, upd_ne (ne_of_none e' ht)]
    exact e'
  · refine ⟨_, rfl, _, _, _, _, rfl, rfl, SqL.of e2, rfl, .inl ⟨_, rfl, _, _, rfl, rfl, ⟨by decide, by decide⟩, _, rfl, _, _, rfl, rfl, hm, ?_⟩⟩
    exact q _ _ (Int.emod_nonneg _ (by omega)) (Int.emod_lt_of_pos _ hm) ⟨y, b, c + 1, upd_same, y0, by omega, h2⟩ (But.upd b1)
end
end Lk
set_option Elab.async false
set_option linter.all false
namespace Lk
open PySem PySem.Spec PyProof.Rows L2 G TL
/-! ### words -/
/-- small letters alone -/
def Low (z : Str) : Prop := ∀ c ∈ z.cps.toList, 97 ≤ c ∧ c ≤ 122
structure Wd (z : Str) : Prop where
  low : Low z
  pos : 1 ≤ z.length
  len : z.length ≤ 8
theorem pick {α : Type} {xs : List α} {d : Int} (h0 : 0 ≤ d) (h1 : d < xs.length) : ∃ v, atI xs d = some v ∧ v ∈ xs := by
  obtain ⟨n, rfl⟩ := Int.eq_ofNat_of_zero_le h0
  have h : n < xs.length := by omega
  exact ⟨xs[n], atI_nat (List.getElem?_eq_getElem h), List.getElem_mem h⟩
theorem pickS {z : Str} {d : Int} (h0 : 0 ≤ d) (h1 : d < z.length) : ∃ c, atI z.cps.toList d = some c ∧ c ∈ z.cps.toList := pick h0 (by simpa [Str.length] using h1)
theorem tyes {σ : L2.St} {H : Hp} {A B : Hp → Prop} (h : A H) : tYes σ H (fun b H3 => if b = true then A H3 else B H3) := iteT (B := B H) h
def sgl (c : Nat) : Str := ⟨#[c]⟩
theorem joinL_nil : ∀ l : List (List Nat), joinL [] l = l.flatten
  | [] => rfl
  | [p] => by simp [joinL]
  | p :: q :: r => by
    show p ++ ([] ++ joinL [] (q :: r)) = _
    rw [joinL_nil (q :: r)]
    simp
theorem join_sgl (cs : List Nat) : (Txt.join Str.empty (cs.map sgl)).cps.toList = cs := by
  rw [join_eq]
  show tl (Str.join Str.empty (cs.map sgl)) = cs
  rw [tl_join]
  show joinL [] _ = cs
  rw [joinL_nil]
  induction cs with
  | nil => rfl
  | cons c r ih =>
    show [c] ++ _ = _
    rw [ih]
    rfl
theorem sum_sgl : ∀ cs : List Nat, ((cs.map sgl).map (·.length)).sum = cs.length
  | [] => rfl
  | c :: r => by
    show (sgl c).length + _ = _
    have := sum_sgl r
    show 1 + ((r.map sgl).map (·.length)).sum = _
    rw [this, List.length_cons]
    omega
def spSigns : Sp := fun vs H Q _ => ∃ p : Addr, vs = [.ref p] ∧ Pur H p ∧ ∀ z H', Wd z → Pur H' p → But p H H' → Q (.str z) H'
section
variable {P : Program} {w : World} {K : PySem.W.Frag} {mg : Str → Option Value} {base : Heap}
theorem ok_signs {f : Addr} {fd : FuncData} (F : Fun K "_law_signs" "_law_signs" s__law_signs f fd) (T : Txt K mg) (c__law_draw : Cal P w K mg base "_law_draw" 1 ["purse", "many"] spDraw) : FG P w K mg base CX0 2 f fd ["purse"] spSigns := by
  refine fun_okG F sc__law_signs (fun vs H Q E h => ?_) (fun cdv A outer s H vs Q E gd hr h => ?_)
  · obtain ⟨_, rfl, _⟩ := h
    rfl
  have nd := sc__law_signs.nd
  obtain ⟨p, rfl, hp, q⟩ := h
  -- purse 0c, some 1c, size 2, k 3
  refine ⟨_, (pss_cons (ps_set (i := 1) nd rfl (Or.inr rfl) (pe_ixL K (pe_lst (pa_cons pe_str (pa_cons pe_str (pa_cons pe_str pa_nil)))) (pe_cg c__law_draw gd (hr.mono (by decide)) (by rfl) (pa_cons (pv 0) (pa_cons pe_int pa_nil)))))
      (pss_cons (ps_set (i := 2) nd rfl (Or.inl rfl) (pe_ixL K (pe_lst (pa_cons pe_int (pa_cons pe_int (pa_cons pe_int (pa_cons pe_int (pa_cons pe_int (pa_cons pe_int pa_nil))))))) (pe_cg c__law_draw gd (hr.mono (by decide)) (by rfl) (pa_cons (pv 0) (pa_cons pe_int pa_nil)))))
      (pss_one (ps_ret (pe_join pe_str (pe_lc (own := [("k", 3)]) (g := gName 3) (by rfl) nd (pi_range1 (by rfl) T.b_range (pa_cons (pv 2) pa_nil)) (blkOk_by (own := [("k", 3)]) (N := ["purse", "some", "size", "k"]) (sc := defScope s__law_signs) (by decide +kernel)) (fun _ _ _ _ _ => pg_name (i := 3) nd rfl (Or.inl rfl)) (fun _ _ _ _ _ => pts_nil) (fun _ _ _ _ _ => (pe_ix ix_str (pv 1) (pe_cg c__law_draw gd (hr.mono (by decide)) (by rfl) (pa_cons (pv 0) (pa_cons (pe_callB call_len_str (by rfl) T.b_len (by decide +kernel) (pa_cons (pv 1) pa_nil)) pa_nil))) (fun _ _ => rfl))))))))), ?_⟩
  refine ⟨lz (by simp), fun l hl => ?_⟩
  have np : ∀ {H1 : Hp} {a : Addr}, Pur H1 p → H1 a = none → a ≠ p := fun {H1 a} h hn e => by
    obtain ⟨_, _, _, e1, _⟩ := h
    rw [e, e1] at hn
    cases hn
  refine ⟨_, rfl, p, 3, rfl, hp.new hl, by decide, by decide, fun d H1 d0 d1 hp1 b1 => ?_⟩
  have l1 : H1 l = some _ := b1 l _ (np hp hl) upd_same
  obtain ⟨v, hv, hm⟩ := pick (xs := [V.str (Str.ofString "abcdefghijklmnopqrstuvwxyz"), .str (Str.ofString "ab"), .str (Str.ofString "steplodink")]) d0 d1
  refine ⟨_, _, _, _, rfl, rfl, SqL.of l1, hv, ?_⟩
  obtain ⟨al, rfl, al0, al1, al2⟩ : ∃ al : Str, v = .str al ∧ Low al ∧ 1 ≤ al.length ∧ al.length ≤ 26 := by
    rcases List.mem_cons.mp hm with rfl | hm
    · exact ⟨_, rfl, by unfold Low; decide +kernel, by decide +kernel, by decide +kernel⟩
    rcases List.mem_cons.mp hm with rfl | hm
    · exact ⟨_, rfl, by unfold Low; decide +kernel, by decide +kernel, by decide +kernel⟩
    rcases List.mem_cons.mp hm with rfl | hm
    · exact ⟨_, rfl, by unfold Low; decide +kernel, by decide +kernel, by decide +kernel⟩
    · cases hm
  -- size
  refine ⟨lz (by simp), fun l2 hl2 => ?_⟩
  refine ⟨_, rfl, p, 6, rfl, hp1.new hl2, by decide, by decide, fun d2 H2 e0 e1 hp2 b2 => ?_⟩
  have l3 : H2 l2 = some _ := b2 l2 _ (np hp1 hl2) upd_same
  have b3 : But p H H2 := ((But.new (But.refl p H) hl).trans b1).trans ((But.new (But.refl p H1) hl2).trans b2)
  obtain ⟨v2, hv2, hm2⟩ := pick (xs := [V.int 1, .int 2, .int 1, .int 3, .int 8, .int 5]) e0 e1
  refine ⟨_, _, _, _, rfl, rfl, SqL.of l3, hv2, ?_⟩
  obtain ⟨n, rfl, n0, n1⟩ : ∃ n : Nat, v2 = .int n ∧ 1 ≤ n ∧ n ≤ 8 := by
    simp only [List.mem_cons, List.not_mem_nil, or_false] at hm2
    rcases hm2 with rfl | rfl | rfl | rfl | rfl | rfl
    · exact ⟨1, rfl, by decide, by decide⟩
    · exact ⟨2, rfl, by decide, by decide⟩
    · exact ⟨1, rfl, by decide, by decide⟩
    · exact ⟨3, rfl, by decide, by decide⟩
    · exact ⟨8, rfl, by decide, by decide⟩
    · exact ⟨5, rfl, by decide, by decide⟩
  -- ''.join([..])
  refine ⟨⟨_, rfl⟩, ?_⟩
  refine ⟨_, rfl, (n : Int), rfl, by omega, by omega, fun D hD => ?_⟩
  have nD : ∀ {H3 : Hp}, Pur H3 p → D ≠ p := fun {H3} h e => by
    obtain ⟨_, _, _, e1, _⟩ := hp2
    rw [e, e1] at hD
    cases hD
  refine lc_range (lo := 0) (n := ((n : Int)).toNat) (fun i H3 => ∃ cs : List Nat, H3 D = some (.lst ((cs.map sgl).map V.str)) ∧ cs.length = i ∧ (∀ c ∈ cs, 97 ≤ c ∧ c ≤ 122) ∧ Pur H3 p ∧ But p H2 H3)
    ⟨[], upd_same, rfl, (by simp), hp2.new hD, But.new (But.refl p H2) hD⟩ ?_ ?_
  · rintro i H3 hi ⟨cs, c1, c2, c3, hp3, b4⟩
    refine ⟨rfl, ?_⟩
    refine tyes ?_
    refine ⟨_, rfl, _, rfl, _, rfl, _, rfl, lz (by omega), p, _, rfl, hp3, by omega, by omega, fun d3 H4 f0 f1 hp4 b5 => ?_⟩
    obtain ⟨c, hc, mc⟩ := pickS f0 f1
    refine ⟨_, _, _, rfl, rfl, lz (by omega), hc, _, b5 D _ (nD hp3) c1, ?_, cs ++ [c], ?_, by simp [c2], ?_, ?_, ?_⟩
    · rw [List.length_map, List.length_map, c2]
      exact Nat.lt_of_lt_of_le hi (lz (by omega))
    · show L2.upd H4 D (.lst ((cs.map sgl).map V.str ++ [V.str (sgl c)])) D = _
      rw [upd_same, List.map_append, List.map_append]
      rfl
    · intro y hy
      rcases List.mem_append.mp hy with hy | hy
      · exact c3 y hy
      · obtain rfl : y = c := by simpa using hy
        exact al0 y mc
    · obtain ⟨a1, a2, a3, e, r⟩ := hp4
      exact ⟨a1, a2, a3, by rw [upd_ne (Ne.symm (nD hp3))]; exact e, r⟩
    · intro u o nu e
      have e1 := b5 u o nu (b4 u o nu e)
      rw [upd_ne (ne_of_none e hD)]
      exact e1
  · rintro H3 ⟨cs, c1, c2, c3, hp3, b4⟩
    refine ⟨_, _, _, rfl, rfl, .inl (SqL.of c1), ?_, ?_⟩
    · rw [sum_sgl, List.length_map]
      show _ + _ * 0 ≤ _
      omega
    · refine q _ H3 ?_ hp3 (b3.trans b4)
      have ej := join_sgl cs
      have ln : (Txt.join Str.empty (cs.map sgl)).length = n := by
        show (Txt.join Str.empty (cs.map sgl)).cps.size = n
        rw [← Array.length_toList, ej, c2]
        omega
      exact ⟨fun c hc => c3 c (by rw [← ej]; exact hc), by rw [← ln] at n0; exact n0, by rw [← ln] at n1; exact n1⟩
end
end Lk
set_option Elab.async false
set_option linter.all false
namespace Lk
open PySem PySem.Spec PyProof.Rows L2 G TL
/-! ### the sort of an error -/
abbrev s__law_sort : Stmt := top 36
theorem sc__law_sort : FnScope ["e", "sorts", "bases", "at"] ["e"] (defScope s__law_sort) := ⟨rfl, rfl, rfl, by decide +kernel, rfl, by decide +kernel, by decide +kernel⟩
def names21 : List String := ["InvalidText", "InvalidNumber", "InvalidArray", "InvalidCost", "InvalidName", "InvalidWish", "NotALoop", "NotAProgram", "NotAWorld", "NotACounts", "NotAForm", "NotCosts", "UnknownInput", "OtherWords", "OtherOuts", "TooFar", "UnknownName", "InUse", "NotRight", "NothingToUndo", "NotKept"]
structure TxS (K : PySem.W.Frag) (mg : Str → Option Value) (WV WM : Addr) (Ct : Nat → Addr) : Prop where
  b_isinstance : mg "isinstance" = none
  b_ValueError : mg "ValueError" = none
  b_LookupError : mg "LookupError" = none
  g_WrongValue : mg "WrongValue" = some (.ref WV)
  g_WrongMoment : mg "WrongMoment" = some (.ref WM)
  gl : ∀ i : Fin 21, mg (Str.ofString (names21[i.val]'i.isLt)) = some (.ref (Ct i.val))
  xc : ∀ i, i < 21 → Xc K (Ct i)
  kit : ∀ i j, i < 21 → j < 21 → PySem.W.kitOne K (.ref (Ct i)) (.ref (Ct j)) = some (decide (i = j))
  kV : ∀ i, i < 21 → PySem.W.kitOne K (.ref (Ct i)) (.ref WV) = some (decide (i < 12))
  kM : ∀ i, i < 21 → PySem.W.kitOne K (.ref (Ct i)) (.ref WM) = some (decide (12 ≤ i))
  kBV : ∀ i, i < 21 → PySem.W.kitOne K (.ref (Ct i)) (.type "ValueError") = some (decide (i < 12))
  kBL : ∀ i, i < 21 → PySem.W.kitOne K (.ref (Ct i)) (.type "LookupError") = some (decide (12 ≤ i))
section
variable {K : PySem.W.Frag} {mg : Str → Option Value} {WV WM : Addr} {Ct : Nat → Addr}
theorem TxS.g_InvalidText (T : TxS K mg WV WM Ct) : mg "InvalidText" = some (.ref (Ct 0)) := T.gl ⟨0, by decide⟩
theorem TxS.g_InvalidNumber (T : TxS K mg WV WM Ct) : mg "InvalidNumber" = some (.ref (Ct 1)) := T.gl ⟨1, by decide⟩
theorem TxS.g_InvalidArray (T : TxS K mg WV WM Ct) : mg "InvalidArray" = some (.ref (Ct 2)) := T.gl ⟨2, by decide⟩
theorem TxS.g_InvalidCost (T : TxS K mg WV WM Ct) : mg "InvalidCost" = some (.ref (Ct 3)) := T.gl ⟨3, by decide⟩
theorem TxS.g_InvalidName (T : TxS K mg WV WM Ct) : mg "InvalidName" = some (.ref (Ct 4)) := T.gl ⟨4, by decide⟩
theorem TxS.g_InvalidWish (T : TxS K mg WV WM Ct) : mg "InvalidWish" = some (.ref (Ct 5)) := T.gl ⟨5, by decide⟩
theorem TxS.g_NotALoop (T : TxS K mg WV WM Ct) : mg "NotALoop" = some (.ref (Ct 6)) := T.gl ⟨6, by decide⟩
theorem TxS.g_NotAProgram (T : TxS K mg WV WM Ct) : mg "NotAProgram" = some (.ref (Ct 7)) := T.gl ⟨7, by decide⟩
theorem TxS.g_NotAWorld (T : TxS K mg WV WM Ct) : mg "NotAWorld" = some (.ref (Ct 8)) := T.gl ⟨8, by decide⟩
theorem TxS.g_NotACounts (T : TxS K mg WV WM Ct) : mg "NotACounts" = some (.ref (Ct 9)) := T.gl ⟨9, by decide⟩
theorem TxS.g_NotAForm (T : TxS K mg WV WM Ct) : mg "NotAForm" = some (.ref (Ct 10)) := T.gl ⟨10, by decide⟩
theorem TxS.g_NotCosts (T : TxS K mg WV WM Ct) : mg "NotCosts" = some (.ref (Ct 11)) := T.gl ⟨11, by decide⟩
theorem TxS.g_UnknownInput (T : TxS K mg WV WM Ct) : mg "UnknownInput" = some (.ref (Ct 12)) := T.gl ⟨12, by decide⟩
theorem TxS.g_OtherWords (T : TxS K mg WV WM Ct) : mg "OtherWords" = some (.ref (Ct 13)) := T.gl ⟨13, by decide⟩
theorem TxS.g_OtherOuts (T : TxS K mg WV WM Ct) : mg "OtherOuts" = some (.ref (Ct 14)) := T.gl ⟨14, by decide⟩
theorem TxS.g_TooFar (T : TxS K mg WV WM Ct) : mg "TooFar" = some (.ref (Ct 15)) := T.gl ⟨15, by decide⟩
theorem TxS.g_UnknownName (T : TxS K mg WV WM Ct) : mg "UnknownName" = some (.ref (Ct 16)) := T.gl ⟨16, by decide⟩
theorem TxS.g_InUse (T : TxS K mg WV WM Ct) : mg "InUse" = some (.ref (Ct 17)) := T.gl ⟨17, by decide⟩
theorem TxS.g_NotRight (T : TxS K mg WV WM Ct) : mg "NotRight" = some (.ref (Ct 18)) := T.gl ⟨18, by decide⟩
theorem TxS.g_NothingToUndo (T : TxS K mg WV WM Ct) : mg "NothingToUndo" = some (.ref (Ct 19)) := T.gl ⟨19, by decide⟩
theorem TxS.g_NotKept (T : TxS K mg WV WM Ct) : mg "NotKept" = some (.ref (Ct 20)) := T.gl ⟨20, by decide⟩
end
theorem one21 : ∀ i : Fin 21, ((List.range 21).map (fun j => decide (i.val = j))).count true = 1 := by decide
theorem at21 : ∀ i : Fin 21, (((List.range 21).map (fun j => decide (i.val = j))).map V.bl)[i.val]? = some (V.bl true) := by
  intro i
  rw [List.getElem?_map, List.getElem?_map, List.getElem?_range i.isLt]
  simp
theorem eqv2b (x y : Bool) : PyData.eqv (.list [.bool x, .bool y]) (.list [.bool x, .bool y]) = true := by
  simp [PyData.eqv, PyData.eqvAll]
/-- an exception of the class at C stands at a -/
def ExAt (C : Addr) (H : Hp) (a : Addr) : Prop := ∃ d, H a = some (exo a C d) ∧ ∀ dx, d = some dx → ∃ fs, H dx = some (exd dx fs)
def spSort (Ct : Nat → Addr) : Sp := fun vs H Q _ => ∃ (a : Addr) (i : Nat), vs = [.ref a] ∧ i < 21 ∧ ExAt (Ct i) H a ∧ ∀ H', Same H H' → Q (.int (i : Int)) H'
section
variable {P : Program} {w : World} {K : PySem.W.Frag} {mg : Str → Option Value} {base : Heap} {WV WM : Addr} {Ct : Nat → Addr}
theorem ok_sort {f : Addr} {fd : FuncData} (F : Fun K "_law_sort" "_law_sort" s__law_sort f fd) (T : TxS K mg WV WM Ct) : FG P w K mg base CX0 1 f fd ["e"] (spSort Ct) := by
  refine fun_okG F sc__law_sort (fun vs H Q E h => ?_) (fun cdv A outer s H vs Q E gd hr h => ?_)
  · obtain ⟨_, _, rfl, _⟩ := h
    rfl
  have nd := sc__law_sort.nd
  obtain ⟨a, i, rfl, hi, ⟨d, ea, ed⟩, q⟩ := h
  -- e 0, sorts 1, bases 2, at 3
  refine ⟨_, (pss_cons (ps_set (i := 1) nd rfl (Or.inl rfl) (pe_lst (pa_cons (pe_callB call_isX (by rfl) T.b_isinstance (by decide +kernel) (pa_cons (pv 0) (pa_cons (pe_glob (v := .ref (Ct 0)) (by rfl) T.g_InvalidText rfl) pa_nil))) (pa_cons (pe_callB call_isX (by rfl) T.b_isinstance (by decide +kernel) (pa_cons (pv 0) (pa_cons (pe_glob (v := .ref (Ct 1)) (by rfl) T.g_InvalidNumber rfl) pa_nil))) (pa_cons (pe_callB call_isX (by rfl) T.b_isinstance (by decide +kernel) (pa_cons (pv 0) (pa_cons (pe_glob (v := .ref (Ct 2)) (by rfl) T.g_InvalidArray rfl) pa_nil))) pa_nil)))))
      (pss_cons (ps_set (i := 1) nd rfl (Or.inl rfl) (pe_op op_cat (pv 1) (pe_lst (pa_cons (pe_callB call_isX (by rfl) T.b_isinstance (by decide +kernel) (pa_cons (pv 0) (pa_cons (pe_glob (v := .ref (Ct 3)) (by rfl) T.g_InvalidCost rfl) pa_nil))) (pa_cons (pe_callB call_isX (by rfl) T.b_isinstance (by decide +kernel) (pa_cons (pv 0) (pa_cons (pe_glob (v := .ref (Ct 4)) (by rfl) T.g_InvalidName rfl) pa_nil))) (pa_cons (pe_callB call_isX (by rfl) T.b_isinstance (by decide +kernel) (pa_cons (pv 0) (pa_cons (pe_glob (v := .ref (Ct 5)) (by rfl) T.g_InvalidWish rfl) pa_nil))) pa_nil))))))
      (pss_cons (ps_set (i := 1) nd rfl (Or.inl rfl) (pe_op op_cat (pv 1) (pe_lst (pa_cons (pe_callB call_isX (by rfl) T.b_isinstance (by decide +kernel) (pa_cons (pv 0) (pa_cons (pe_glob (v := .ref (Ct 6)) (by rfl) T.g_NotALoop rfl) pa_nil))) (pa_cons (pe_callB call_isX (by rfl) T.b_isinstance (by decide +kernel) (pa_cons (pv 0) (pa_cons (pe_glob (v := .ref (Ct 7)) (by rfl) T.g_NotAProgram rfl) pa_nil))) (pa_cons (pe_callB call_isX (by rfl) T.b_isinstance (by decide +kernel) (pa_cons (pv 0) (pa_cons (pe_glob (v := .ref (Ct 8)) (by rfl) T.g_NotAWorld rfl) pa_nil))) pa_nil))))))
      (pss_cons (ps_set (i := 1) nd rfl (Or.inl rfl) (pe_op op_cat (pv 1) (pe_lst (pa_cons (pe_callB call_isX (by rfl) T.b_isinstance (by decide +kernel) (pa_cons (pv 0) (pa_cons (pe_glob (v := .ref (Ct 9)) (by rfl) T.g_NotACounts rfl) pa_nil))) (pa_cons (pe_callB call_isX (by rfl) T.b_isinstance (by decide +kernel) (pa_cons (pv 0) (pa_cons (pe_glob (v := .ref (Ct 10)) (by rfl) T.g_NotAForm rfl) pa_nil))) (pa_cons (pe_callB call_isX (by rfl) T.b_isinstance (by decide +kernel) (pa_cons (pv 0) (pa_cons (pe_glob (v := .ref (Ct 11)) (by rfl) T.g_NotCosts rfl) pa_nil))) pa_nil))))))
      (pss_cons (ps_set (i := 1) nd rfl (Or.inl rfl) (pe_op op_cat (pv 1) (pe_lst (pa_cons (pe_callB call_isX (by rfl) T.b_isinstance (by decide +kernel) (pa_cons (pv 0) (pa_cons (pe_glob (v := .ref (Ct 12)) (by rfl) T.g_UnknownInput rfl) pa_nil))) (pa_cons (pe_callB call_isX (by rfl) T.b_isinstance (by decide +kernel) (pa_cons (pv 0) (pa_cons (pe_glob (v := .ref (Ct 13)) (by rfl) T.g_OtherWords rfl) pa_nil))) (pa_cons (pe_callB call_isX (by rfl) T.b_isinstance (by decide +kernel) (pa_cons (pv 0) (pa_cons (pe_glob (v := .ref (Ct 14)) (by rfl) T.g_OtherOuts rfl) pa_nil))) pa_nil))))))
      (pss_cons (ps_set (i := 1) nd rfl (Or.inl rfl) (pe_op op_cat (pv 1) (pe_lst (pa_cons (pe_callB call_isX (by rfl) T.b_isinstance (by decide +kernel) (pa_cons (pv 0) (pa_cons (pe_glob (v := .ref (Ct 15)) (by rfl) T.g_TooFar rfl) pa_nil))) (pa_cons (pe_callB call_isX (by rfl) T.b_isinstance (by decide +kernel) (pa_cons (pv 0) (pa_cons (pe_glob (v := .ref (Ct 16)) (by rfl) T.g_UnknownName rfl) pa_nil))) (pa_cons (pe_callB call_isX (by rfl) T.b_isinstance (by decide +kernel) (pa_cons (pv 0) (pa_cons (pe_glob (v := .ref (Ct 17)) (by rfl) T.g_InUse rfl) pa_nil))) pa_nil))))))
      (pss_cons (ps_set (i := 1) nd rfl (Or.inl rfl) (pe_op op_cat (pv 1) (pe_lst (pa_cons (pe_callB call_isX (by rfl) T.b_isinstance (by decide +kernel) (pa_cons (pv 0) (pa_cons (pe_glob (v := .ref (Ct 18)) (by rfl) T.g_NotRight rfl) pa_nil))) (pa_cons (pe_callB call_isX (by rfl) T.b_isinstance (by decide +kernel) (pa_cons (pv 0) (pa_cons (pe_glob (v := .ref (Ct 19)) (by rfl) T.g_NothingToUndo rfl) pa_nil))) (pa_cons (pe_callB call_isX (by rfl) T.b_isinstance (by decide +kernel) (pa_cons (pv 0) (pa_cons (pe_glob (v := .ref (Ct 20)) (by rfl) T.g_NotKept rfl) pa_nil))) pa_nil))))))
      (pss_cons (ps_set (i := 2) nd rfl (Or.inl rfl) (pe_lst (pa_cons (pe_callB call_isX (by rfl) T.b_isinstance (by decide +kernel) (pa_cons (pv 0) (pa_cons (pe_glob (v := .ref WV) (by rfl) T.g_WrongValue rfl) pa_nil))) (pa_cons (pe_callB call_isX (by rfl) T.b_isinstance (by decide +kernel) (pa_cons (pv 0) (pa_cons (pe_glob (v := .ref WM) (by rfl) T.g_WrongMoment rfl) pa_nil))) pa_nil))))
      (pss_cons (ps_if (PW.pt (pw_or (pt_neS (pe_bm PySem.F.plainAttrs_list PySem.F.slot_list_count PySem.F.type_list_count mt_countB (pv 1) (pa_cons pe_bl pa_nil)) pe_int) (pw_or1 (pt_neD hr (pv 2) (pe_lst (pa_cons (pe_callB call_isX (by rfl) T.b_isinstance (by decide +kernel) (pa_cons (pv 0) (pa_cons (pe_bltn (v := .ty "ValueError") (by rfl) T.b_ValueError (by decide +kernel) rfl) pa_nil))) (pa_cons (pe_callB call_isX (by rfl) T.b_isinstance (by decide +kernel) (pa_cons (pv 0) (pa_cons (pe_bltn (v := .ty "LookupError") (by rfl) T.b_LookupError (by decide +kernel) rfl) pa_nil))) pa_nil)))))))
        (pss_one (ps_ret (pe_un un_neg pe_int)))
        pss_nil)
      (pss_cons (ps_set (i := 3) nd rfl (Or.inl rfl) (pe_bm PySem.F.plainAttrs_list PySem.F.slot_list_index PySem.F.type_list_index mt_index (pv 1) (pa_cons pe_bl pa_nil)))
      (pss_one (ps_ret (pe_ifExp (pt_eqD hr (pv 2) (pe_lst (pa_cons (pe_cmpR op_lt (pv 3) pe_int (nomark _)) (pa_cons (pe_cmpR op_ge (pv 3) pe_int (nomark _)) pa_nil)))) (pv 3) (pe_un un_neg pe_int)))))))))))))), ?_⟩
  have ex : ∀ {H2 : Hp}, Same H H2 → H2 a = some (exo a (Ct i) d) ∧ ∀ dx, d = some dx → ∃ fs, H2 dx = some (exd dx fs) := fun {H2} c => ⟨c _ _ ea, fun dx e => by
    obtain ⟨fs, q⟩ := ed dx e
    exact ⟨fs, c _ _ q⟩⟩
  have s0 : Same H H := Same.refl H
  refine ⟨_, rfl, a, Ct i, d, _, _, _, rfl, T.xc i hi, (ex s0).1, (ex s0).2, fun _ r => r, T.kit i 0 hi (by decide), _, rfl, a, Ct i, d, _, _, _, rfl, T.xc i hi, (ex s0).1, (ex s0).2, fun _ r => r, T.kit i 1 hi (by decide), _, rfl, a, Ct i, d, _, _, _, rfl, T.xc i hi, (ex s0).1, (ex s0).2, fun _ r => r, T.kit i 2 hi (by decide), lz (by simp), fun l0 hl0 => ?_⟩
  dsimp only [tNil]
  have s1 : Same H (L2.upd H l0 (.lst [V.bl (decide (i = 0)), V.bl (decide (i = 1)), V.bl (decide (i = 2))])) := Same.new s0 hl0
  have c1 : (L2.upd H l0 (.lst [V.bl (decide (i = 0)), V.bl (decide (i = 1)), V.bl (decide (i = 2))])) l0 = some (.lst [V.bl (decide (i = 0)), V.bl (decide (i = 1)), V.bl (decide (i = 2))]) := upd_same
  generalize L2.upd H l0 (.lst [V.bl (decide (i = 0)), V.bl (decide (i = 1)), V.bl (decide (i = 2))]) = H1 at *
  refine ⟨_, rfl, _, rfl, a, Ct i, d, _, _, _, rfl, T.xc i hi, (ex s1).1, (ex s1).2, fun _ r => r, T.kit i 3 hi (by decide), _, rfl, a, Ct i, d, _, _, _, rfl, T.xc i hi, (ex s1).1, (ex s1).2, fun _ r => r, T.kit i 4 hi (by decide), _, rfl, a, Ct i, d, _, _, _, rfl, T.xc i hi, (ex s1).1, (ex s1).2, fun _ r => r, T.kit i 5 hi (by decide), lz (by simp), fun m1 hm1 => ?_⟩
  dsimp only [tNil]
  have t1 : Same H (L2.upd H1 m1 (.lst [V.bl (decide (i = 3)), V.bl (decide (i = 4)), V.bl (decide (i = 5))])) := Same.new s1 hm1
  have e1 := (upd_ne (o := .lst [V.bl (decide (i = 3)), V.bl (decide (i = 4)), V.bl (decide (i = 5))]) (ne_of_none c1 hm1)).trans c1
  refine ⟨_, _, _, _, rfl, rfl, e1, upd_same, lz (by simp), fun n1 hn1 => ?_⟩
  have s2 : Same H (L2.upd (L2.upd H1 m1 (.lst [V.bl (decide (i = 3)), V.bl (decide (i = 4)), V.bl (decide (i = 5))])) n1 (.lst ([V.bl (decide (i = 0)), V.bl (decide (i = 1)), V.bl (decide (i = 2))] ++ [V.bl (decide (i = 3)), V.bl (decide (i = 4)), V.bl (decide (i = 5))]))) := Same.new t1 hn1
  have c2 : (L2.upd (L2.upd H1 m1 (.lst [V.bl (decide (i = 3)), V.bl (decide (i = 4)), V.bl (decide (i = 5))])) n1 (.lst ([V.bl (decide (i = 0)), V.bl (decide (i = 1)), V.bl (decide (i = 2))] ++ [V.bl (decide (i = 3)), V.bl (decide (i = 4)), V.bl (decide (i = 5))]))) n1 = some (.lst [V.bl (decide (i = 0)), V.bl (decide (i = 1)), V.bl (decide (i = 2)), V.bl (decide (i = 3)), V.bl (decide (i = 4)), V.bl (decide (i = 5))]) := upd_same
  generalize L2.upd (L2.upd H1 m1 (.lst [V.bl (decide (i = 3)), V.bl (decide (i = 4)), V.bl (decide (i = 5))])) n1 (.lst ([V.bl (decide (i = 0)), V.bl (decide (i = 1)), V.bl (decide (i = 2))] ++ [V.bl (decide (i = 3)), V.bl (decide (i = 4)), V.bl (decide (i = 5))])) = H2 at *
  refine ⟨_, rfl, _, rfl, a, Ct i, d, _, _, _, rfl, T.xc i hi, (ex s2).1, (ex s2).2, fun _ r => r, T.kit i 6 hi (by decide), _, rfl, a, Ct i, d, _, _, _, rfl, T.xc i hi, (ex s2).1, (ex s2).2, fun _ r => r, T.kit i 7 hi (by decide), _, rfl, a, Ct i, d, _, _, _, rfl, T.xc i hi, (ex s2).1, (ex s2).2, fun _ r => r, T.kit i 8 hi (by decide), lz (by simp), fun m2 hm2 => ?_⟩
  dsimp only [tNil]
  have t2 : Same H (L2.upd H2 m2 (.lst [V.bl (decide (i = 6)), V.bl (decide (i = 7)), V.bl (decide (i = 8))])) := Same.new s2 hm2
  have e2 := (upd_ne (o := .lst [V.bl (decide (i = 6)), V.bl (decide (i = 7)), V.bl (decide (i = 8))]) (ne_of_none c2 hm2)).trans c2
  refine ⟨_, _, _, _, rfl, rfl, e2, upd_same, lz (by simp), fun n2 hn2 => ?_⟩
  have s3 : Same H (L2.upd (L2.upd H2 m2 (.lst [V.bl (decide (i = 6)), V.bl (decide (i = 7)), V.bl (decide (i = 8))])) n2 (.lst ([V.bl (decide (i = 0)), V.bl (decide (i = 1)), V.bl (decide (i = 2)), V.bl (decide (i = 3)), V.bl (decide (i = 4)), V.bl (decide (i = 5))] ++ [V.bl (decide (i = 6)), V.bl (decide (i = 7)), V.bl (decide (i = 8))]))) := Same.new t2 hn2
  have c3 : (L2.upd (L2.upd H2 m2 (.lst [V.bl (decide (i = 6)), V.bl (decide (i = 7)), V.bl (decide (i = 8))])) n2 (.lst ([V.bl (decide (i = 0)), V.bl (decide (i = 1)), V.bl (decide (i = 2)), V.bl (decide (i = 3)), V.bl (decide (i = 4)), V.bl (decide (i = 5))] ++ [V.bl (decide (i = 6)), V.bl (decide (i = 7)), V.bl (decide (i = 8))]))) n2 = some (.lst [V.bl (decide (i = 0)), V.bl (decide (i = 1)), V.bl (decide (i = 2)), V.bl (decide (i = 3)), V.bl (decide (i = 4)), V.bl (decide (i = 5)), V.bl (decide (i = 6)), V.bl (decide (i = 7)), V.bl (decide (i = 8))]) := upd_same
  generalize L2.upd (L2.upd H2 m2 (.lst [V.bl (decide (i = 6)), V.bl (decide (i = 7)), V.bl (decide (i = 8))])) n2 (.lst ([V.bl (decide (i = 0)), V.bl (decide (i = 1)), V.bl (decide (i = 2)), V.bl (decide (i = 3)), V.bl (decide (i = 4)), V.bl (decide (i = 5))] ++ [V.bl (decide (i = 6)), V.bl (decide (i = 7)), V.bl (decide (i = 8))])) = H3 at *
  refine ⟨_, rfl, _, rfl, a, Ct i, d, _, _, _, rfl, T.xc i hi, (ex s3).1, (ex s3).2, fun _ r => r, T.kit i 9 hi (by decide), _, rfl, a, Ct i, d, _, _, _, rfl, T.xc i hi, (ex s3).1, (ex s3).2, fun _ r => r, T.kit i 10 hi (by decide), _, rfl, a, Ct i, d, _, _, _, rfl, T.xc i hi, (ex s3).1, (ex s3).2, fun _ r => r, T.kit i 11 hi (by decide), lz (by simp), fun m3 hm3 => ?_⟩
  dsimp only [tNil]
  have t3 : Same H (L2.upd H3 m3 (.lst [V.bl (decide (i = 9)), V.bl (decide (i = 10)), V.bl (decide (i = 11))])) := Same.new s3 hm3
  have e3 := (upd_ne (o := .lst [V.bl (decide (i = 9)), V.bl (decide (i = 10)), V.bl (decide (i = 11))]) (ne_of_none c3 hm3)).trans c3
  refine ⟨_, _, _, _, rfl, rfl, e3, upd_same, lz (by simp), fun n3 hn3 => ?_⟩
  have s4 : Same H (L2.upd (L2.upd H3 m3 (.lst [V.bl (decide (i = 9)), V.bl (decide (i = 10)), V.bl (decide (i = 11))])) n3 (.lst ([V.bl (decide (i = 0)), V.bl (decide (i = 1)), V.bl (decide (i = 2)), V.bl (decide (i = 3)), V.bl (decide (i = 4)), V.bl (decide (i = 5)), V.bl (decide (i = 6)), V.bl (decide (i = 7)), V.bl (decide (i = 8))] ++ [V.bl (decide (i = 9)), V.bl (decide (i = 10)), V.bl (decide (i = 11))]))) := Same.new t3 hn3
  have c4 : (L2.upd (L2.upd H3 m3 (.lst [V.bl (decide (i = 9)), V.bl (decide (i = 10)), V.bl (decide (i = 11))])) n3 (.lst ([V.bl (decide (i = 0)), V.bl (decide (i = 1)), V.bl (decide (i = 2)), V.bl (decide (i = 3)), V.bl (decide (i = 4)), V.bl (decide (i = 5)), V.bl (decide (i = 6)), V.bl (decide (i = 7)), V.bl (decide (i = 8))] ++ [V.bl (decide (i = 9)), V.bl (decide (i = 10)), V.bl (decide (i = 11))]))) n3 = some (.lst [V.bl (decide (i = 0)), V.bl (decide (i = 1)), V.bl (decide (i = 2)), V.bl (decide (i = 3)), V.bl (decide (i = 4)), V.bl (decide (i = 5)), V.bl (decide (i = 6)), V.bl (decide (i = 7)), V.bl (decide (i = 8)), V.bl (decide (i = 9)), V.bl (decide (i = 10)), V.bl (decide (i = 11))]) := upd_same
  generalize L2.upd (L2.upd H3 m3 (.lst [V.bl (decide (i = 9)), V.bl (decide (i = 10)), V.bl (decide (i = 11))])) n3 (.lst ([V.bl (decide (i = 0)), V.bl (decide (i = 1)), V.bl (decide (i = 2)), V.bl (decide (i = 3)), V.bl (decide (i = 4)), V.bl (decide (i = 5)), V.bl (decide (i = 6)), V.bl (decide (i = 7)), V.bl (decide (i = 8))] ++ [V.bl (decide (i = 9)), V.bl (decide (i = 10)), V.bl (decide (i = 11))])) = H4 at *
  refine ⟨_, rfl, _, rfl, a, Ct i, d, _, _, _, rfl, T.xc i hi, (ex s4).1, (ex s4).2, fun _ r => r, T.kit i 12 hi (by decide), _, rfl, a, Ct i, d, _, _, _, rfl, T.xc i hi, (ex s4).1, (ex s4).2, fun _ r => r, T.kit i 13 hi (by decide), _, rfl, a, Ct i, d, _, _, _, rfl, T.xc i hi, (ex s4).1, (ex s4).2, fun _ r => r, T.kit i 14 hi (by decide), lz (by simp), fun m4 hm4 => ?_⟩
  dsimp only [tNil]
  have t4 : Same H (L2.upd H4 m4 (.lst [V.bl (decide (i = 12)), V.bl (decide (i = 13)), V.bl (decide (i = 14))])) := Same.new s4 hm4
  have e4 := (upd_ne (o := .lst [V.bl (decide (i = 12)), V.bl (decide (i = 13)), V.bl (decide (i = 14))]) (ne_of_none c4 hm4)).trans c4
  refine ⟨_, _, _, _, rfl, rfl, e4, upd_same, lz (by simp), fun n4 hn4 => ?_⟩
  have s5 : Same H (L2.upd (L2.upd H4 m4 (.lst [V.bl (decide (i = 12)), V.bl (decide (i = 13)), V.bl (decide (i = 14))])) n4 (.lst ([V.bl (decide (i = 0)), V.bl (decide (i = 1)), V.bl (decide (i = 2)), V.bl (decide (i = 3)), V.bl (decide (i = 4)), V.bl (decide (i = 5)), V.bl (decide (i = 6)), V.bl (decide (i = 7)), V.bl (decide (i = 8)), V.bl (decide (i = 9)), V.bl (decide (i = 10)), V.bl (decide (i = 11))] ++ [V.bl (decide (i = 12)), V.bl (decide (i = 13)), V.bl (decide (i = 14))]))) := Same.new t4 hn4
  have c5 : (L2.upd (L2.upd H4 m4 (.lst [V.bl (decide (i = 12)), V.bl (decide (i = 13)), V.bl (decide (i = 14))])) n4 (.lst ([V.bl (decide (i = 0)), V.bl (decide (i = 1)), V.bl (decide (i = 2)), V.bl (decide (i = 3)), V.bl (decide (i = 4)), V.bl (decide (i = 5)), V.bl (decide (i = 6)), V.bl (decide (i = 7)), V.bl (decide (i = 8)), V.bl (decide (i = 9)), V.bl (decide (i = 10)), V.bl (decide (i = 11))] ++ [V.bl (decide (i = 12)), V.bl (decide (i = 13)), V.bl (decide (i = 14))]))) n4 = some (.lst [V.bl (decide (i = 0)), V.bl (decide (i = 1)), V.bl (decide (i = 2)), V.bl (decide (i = 3)), V.bl (decide (i = 4)), V.bl (decide (i = 5)), V.bl (decide (i = 6)), V.bl (decide (i = 7)), V.bl (decide (i = 8)), V.bl (decide (i = 9)), V.bl (decide (i = 10)), V.bl (decide (i = 11)), V.bl (decide (i = 12)), V.bl (decide (i = 13)), V.bl (decide (i = 14))]) := upd_same
  generalize L2.upd (L2.upd H4 m4 (.lst [V.bl (decide (i = 12)), V.bl (decide (i = 13)), V.bl (decide (i = 14))])) n4 (.lst ([V.bl (decide (i = 0)), V.bl (decide (i = 1)), V.bl (decide (i = 2)), V.bl (decide (i = 3)), V.bl (decide (i = 4)), V.bl (decide (i = 5)), V.bl (decide (i = 6)), V.bl (decide (i = 7)), V.bl (decide (i = 8)), V.bl (decide (i = 9)), V.bl (decide (i = 10)), V.bl (decide (i = 11))] ++ [V.bl (decide (i = 12)), V.bl (decide (i = 13)), V.bl (decide (i = 14))])) = H5 at *
  refine ⟨_, rfl, _, rfl, a, Ct i, d, _, _, _, rfl, T.xc i hi, (ex s5).1, (ex s5).2, fun _ r => r, T.kit i 15 hi (by decide), _, rfl, a, Ct i, d, _, _, _, rfl, T.xc i hi, (ex s5).1, (ex s5).2, fun _ r => r, T.kit i 16 hi (by decide), _, rfl, a, Ct i, d, _, _, _, rfl, T.xc i hi, (ex s5).1, (ex s5).2, fun _ r => r, T.kit i 17 hi (by decide), lz (by simp), fun m5 hm5 => ?_⟩
  dsimp only [tNil]
  have t5 : Same H (L2.upd H5 m5 (.lst [V.bl (decide (i = 15)), V.bl (decide (i = 16)), V.bl (decide (i = 17))])) := Same.new s5 hm5
  have e5 := (upd_ne (o := .lst [V.bl (decide (i = 15)), V.bl (decide (i = 16)), V.bl (decide (i = 17))]) (ne_of_none c5 hm5)).trans c5
  refine ⟨_, _, _, _, rfl, rfl, e5, upd_same, lz (by simp), fun n5 hn5 => ?_⟩
  have s6 : Same H (L2.upd (L2.upd H5 m5 (.lst [V.bl (decide (i = 15)), V.bl (decide (i = 16)), V.bl (decide (i = 17))])) n5 (.lst ([V.bl (decide (i = 0)), V.bl (decide (i = 1)), V.bl (decide (i = 2)), V.bl (decide (i = 3)), V.bl (decide (i = 4)), V.bl (decide (i = 5)), V.bl (decide (i = 6)), V.bl (decide (i = 7)), V.bl (decide (i = 8)), V.bl (decide (i = 9)), V.bl (decide (i = 10)), V.bl (decide (i = 11)), V.bl (decide (i = 12)), V.bl (decide (i = 13)), V.bl (decide (i = 14))] ++ [V.bl (decide (i = 15)), V.bl (decide (i = 16)), V.bl (decide (i = 17))]))) := Same.new t5 hn5
  have c6 : (L2.upd (L2.upd H5 m5 (.lst [V.bl (decide (i = 15)), V.bl (decide (i = 16)), V.bl (decide (i = 17))])) n5 (.lst ([V.bl (decide (i = 0)), V.bl (decide (i = 1)), V.bl (decide (i = 2)), V.bl (decide (i = 3)), V.bl (decide (i = 4)), V.bl (decide (i = 5)), V.bl (decide (i = 6)), V.bl (decide (i = 7)), V.bl (decide (i = 8)), V.bl (decide (i = 9)), V.bl (decide (i = 10)), V.bl (decide (i = 11)), V.bl (decide (i = 12)), V.bl (decide (i = 13)), V.bl (decide (i = 14))] ++ [V.bl (decide (i = 15)), V.bl (decide (i = 16)), V.bl (decide (i = 17))]))) n5 = some (.lst [V.bl (decide (i = 0)), V.bl (decide (i = 1)), V.bl (decide (i = 2)), V.bl (decide (i = 3)), V.bl (decide (i = 4)), V.bl (decide (i = 5)), V.bl (decide (i = 6)), V.bl (decide (i = 7)), V.bl (decide (i = 8)), V.bl (decide (i = 9)), V.bl (decide (i = 10)), V.bl (decide (i = 11)), V.bl (decide (i = 12)), V.bl (decide (i = 13)), V.bl (decide (i = 14)), V.bl (decide (i = 15)), V.bl (decide (i = 16)), V.bl (decide (i = 17))]) := upd_same
  generalize L2.upd (L2.upd H5 m5 (.lst [V.bl (decide (i = 15)), V.bl (decide (i = 16)), V.bl (decide (i = 17))])) n5 (.lst ([V.bl (decide (i = 0)), V.bl (decide (i = 1)), V.bl (decide (i = 2)), V.bl (decide (i = 3)), V.bl (decide (i = 4)), V.bl (decide (i = 5)), V.bl (decide (i = 6)), V.bl (decide (i = 7)), V.bl (decide (i = 8)), V.bl (decide (i = 9)), V.bl (decide (i = 10)), V.bl (decide (i = 11)), V.bl (decide (i = 12)), V.bl (decide (i = 13)), V.bl (decide (i = 14))] ++ [V.bl (decide (i = 15)), V.bl (decide (i = 16)), V.bl (decide (i = 17))])) = H6 at *
  refine ⟨_, rfl, _, rfl, a, Ct i, d, _, _, _, rfl, T.xc i hi, (ex s6).1, (ex s6).2, fun _ r => r, T.kit i 18 hi (by decide), _, rfl, a, Ct i, d, _, _, _, rfl, T.xc i hi, (ex s6).1, (ex s6).2, fun _ r => r, T.kit i 19 hi (by decide), _, rfl, a, Ct i, d, _, _, _, rfl, T.xc i hi, (ex s6).1, (ex s6).2, fun _ r => r, T.kit i 20 hi (by decide), lz (by simp), fun m6 hm6 => ?_⟩
  dsimp only [tNil]
  have t6 : Same H (L2.upd H6 m6 (.lst [V.bl (decide (i = 18)), V.bl (decide (i = 19)), V.bl (decide (i = 20))])) := Same.new s6 hm6
  have e6 := (upd_ne (o := .lst [V.bl (decide (i = 18)), V.bl (decide (i = 19)), V.bl (decide (i = 20))]) (ne_of_none c6 hm6)).trans c6
  refine ⟨_, _, _, _, rfl, rfl, e6, upd_same, lz (by simp), fun n6 hn6 => ?_⟩
  have s7 : Same H (L2.upd (L2.upd H6 m6 (.lst [V.bl (decide (i = 18)), V.bl (decide (i = 19)), V.bl (decide (i = 20))])) n6 (.lst ([V.bl (decide (i = 0)), V.bl (decide (i = 1)), V.bl (decide (i = 2)), V.bl (decide (i = 3)), V.bl (decide (i = 4)), V.bl (decide (i = 5)), V.bl (decide (i = 6)), V.bl (decide (i = 7)), V.bl (decide (i = 8)), V.bl (decide (i = 9)), V.bl (decide (i = 10)), V.bl (decide (i = 11)), V.bl (decide (i = 12)), V.bl (decide (i = 13)), V.bl (decide (i = 14)), V.bl (decide (i = 15)), V.bl (decide (i = 16)), V.bl (decide (i = 17))] ++ [V.bl (decide (i = 18)), V.bl (decide (i = 19)), V.bl (decide (i = 20))]))) := Same.new t6 hn6
  have c7 : (L2.upd (L2.upd H6 m6 (.lst [V.bl (decide (i = 18)), V.bl (decide (i = 19)), V.bl (decide (i = 20))])) n6 (.lst ([V.bl (decide (i = 0)), V.bl (decide (i = 1)), V.bl (decide (i = 2)), V.bl (decide (i = 3)), V.bl (decide (i = 4)), V.bl (decide (i = 5)), V.bl (decide (i = 6)), V.bl (decide (i = 7)), V.bl (decide (i = 8)), V.bl (decide (i = 9)), V.bl (decide (i = 10)), V.bl (decide (i = 11)), V.bl (decide (i = 12)), V.bl (decide (i = 13)), V.bl (decide (i = 14)), V.bl (decide (i = 15)), V.bl (decide (i = 16)), V.bl (decide (i = 17))] ++ [V.bl (decide (i = 18)), V.bl (decide (i = 19)), V.bl (decide (i = 20))]))) n6 = some (.lst [V.bl (decide (i = 0)), V.bl (decide (i = 1)), V.bl (decide (i = 2)), V.bl (decide (i = 3)), V.bl (decide (i = 4)), V.bl (decide (i = 5)), V.bl (decide (i = 6)), V.bl (decide (i = 7)), V.bl (decide (i = 8)), V.bl (decide (i = 9)), V.bl (decide (i = 10)), V.bl (decide (i = 11)), V.bl (decide (i = 12)), V.bl (decide (i = 13)), V.bl (decide (i = 14)), V.bl (decide (i = 15)), V.bl (decide (i = 16)), V.bl (decide (i = 17)), V.bl (decide (i = 18)), V.bl (decide (i = 19)), V.bl (decide (i = 20))]) := upd_same
  generalize L2.upd (L2.upd H6 m6 (.lst [V.bl (decide (i = 18)), V.bl (decide (i = 19)), V.bl (decide (i = 20))])) n6 (.lst ([V.bl (decide (i = 0)), V.bl (decide (i = 1)), V.bl (decide (i = 2)), V.bl (decide (i = 3)), V.bl (decide (i = 4)), V.bl (decide (i = 5)), V.bl (decide (i = 6)), V.bl (decide (i = 7)), V.bl (decide (i = 8)), V.bl (decide (i = 9)), V.bl (decide (i = 10)), V.bl (decide (i = 11)), V.bl (decide (i = 12)), V.bl (decide (i = 13)), V.bl (decide (i = 14)), V.bl (decide (i = 15)), V.bl (decide (i = 16)), V.bl (decide (i = 17))] ++ [V.bl (decide (i = 18)), V.bl (decide (i = 19)), V.bl (decide (i = 20))])) = H7 at *
  -- bases
  refine ⟨_, rfl, a, Ct i, d, _, _, _, rfl, T.xc i hi, (ex s7).1, (ex s7).2, fun _ r => r, T.kV i hi, _, rfl, a, Ct i, d, _, _, _, rfl, T.xc i hi, (ex s7).1, (ex s7).2, fun _ r => r, T.kM i hi, lz (by simp), fun bl hbl => ?_⟩
  dsimp only [tNil]
  have s8 : Same H (L2.upd H7 bl (.lst [V.bl (decide (i < 12)), V.bl (decide (12 ≤ i))])) := Same.new s7 hbl
  have c8 := (upd_ne (o := .lst [V.bl (decide (i < 12)), V.bl (decide (12 ≤ i))]) (ne_of_none c7 hbl)).trans c7
  have b8 : (L2.upd H7 bl (.lst [V.bl (decide (i < 12)), V.bl (decide (12 ≤ i))])) bl = some (.lst [V.bl (decide (i < 12)), V.bl (decide (12 ≤ i))]) := upd_same
  generalize L2.upd H7 bl (.lst [V.bl (decide (i < 12)), V.bl (decide (12 ≤ i))]) = H8 at *
  refine ⟨_, rfl, .inl ⟨rfl, _, SqL.of c8⟩, n6, (List.range 21).map (fun j => decide (i = j)), true, rfl, rfl, c8, ?_⟩
  rw [one21 ⟨i, hi⟩]
  refine ⟨rfl, _, rfl, iteNS rfl ?_⟩
  -- bases != [ValueError, LookupError]
  refine ⟨_, rfl, _, rfl, a, Ct i, d, _, _, _, rfl, T.xc i hi, (ex s8).1, (ex s8).2, fun _ r => r, T.kBV i hi, _, rfl, a, Ct i, d, _, _, _, rfl, T.xc i hi, (ex s8).1, (ex s8).2, fun _ r => r, T.kBL i hi, lz (by simp), fun b2 hb2 => ?_⟩
  dsimp only [tNil]
  have s9 : Same H (L2.upd H8 b2 (.lst [V.bl (decide (i < 12)), V.bl (decide (12 ≤ i))])) := Same.new s8 hb2
  have c9 := (upd_ne (o := .lst [V.bl (decide (i < 12)), V.bl (decide (12 ≤ i))]) (ne_of_none c8 hb2)).trans c8
  have b9 := (upd_ne (o := .lst [V.bl (decide (i < 12)), V.bl (decide (12 ≤ i))]) (ne_of_none b8 hb2)).trans b8
  refine ⟨_, _, .lst (SqL.of b9) (.cons (.bl _) (.cons (.bl _) .nil)), .lst (SqL.of upd_same) (.cons (.bl _) (.cons (.bl _) .nil)), rfl, rfl, ?_⟩
  rw [eqv2b]
  refine ⟨_, rfl, iteF ?_⟩
  generalize L2.upd H8 b2 (.lst [V.bl (decide (i < 12)), V.bl (decide (12 ≤ i))]) = H9 at *
  -- at
  refine ⟨_, rfl, .inl ⟨rfl, _, SqL.of c9⟩, n6, _, .bl true, i, .bl true, rfl, rfl, SqL.of c9, rfl, rfl, ?_, rfl, ?_, ?_⟩
  · exact at21 ⟨i, hi⟩
  · intro m z' hm hz
    have hm2 : m < 21 := by omega
    have e : (((List.range 21).map (fun j => decide (i = j))).map V.bl)[m]? = some (V.bl (decide (i = m))) := by
      rw [List.getElem?_map, List.getElem?_map, List.getElem?_range hm2]
      rfl
    have hz' : (((List.range 21).map (fun j => decide (i = j))).map V.bl)[m]? = some z' := hz
    rw [e] at hz'
    obtain rfl := Option.some.inj hz'
    rw [decide_eq_false (show ¬ i = m by omega)]
    rfl
  refine ⟨_, rfl, _, rfl, _, _, rfl, rfl, _, rfl, _, _, rfl, rfl, lz (by simp), fun b3 hb3 => ?_⟩
  dsimp only [tNil]
  have p1 : decide ((i : Int) < 12) = decide (i < 12) := by
    by_cases z : i < 12
    · rw [decide_eq_true z, decide_eq_true (by omega)]
    · rw [decide_eq_false z, decide_eq_false (by omega)]
  have p2 : decide ((i : Int) ≥ 12) = decide (12 ≤ i) := by
    by_cases z : 12 ≤ i
    · rw [decide_eq_true z, decide_eq_true (by omega)]
    · rw [decide_eq_false z, decide_eq_false (by omega)]
  have p2' : decide (12 ≤ (i : Int)) = decide (12 ≤ i) := p2
  rw [p1, p2']
  have b10 := (upd_ne (o := .lst [V.bl (decide (i < 12)), V.bl (decide (12 ≤ i))]) (ne_of_none b9 hb3)).trans b9
  refine ⟨_, _, .lst (SqL.of b10) (.cons (.bl _) (.cons (.bl _) .nil)), .lst (SqL.of upd_same) (.cons (.bl _) (.cons (.bl _) .nil)), rfl, rfl, ?_⟩
  rw [eqv2b]
  refine ⟨_, rfl, iteT ?_⟩
  exact ⟨_, rfl, q _ (Same.new s9 hb3)⟩
end
end Lk
set_option Elab.async false
set_option linter.all false
namespace Lk
open PySem PySem.Spec PyProof.Rows L2 G TL
/-! ### what an error keeps -/
abbrev s_InvalidText____init__ : Stmt := inClass (top 2) 0
theorem sc_InvalidText____init__ : FnScope ["self", "given"] ["self", "given"] (defScope s_InvalidText____init__) := ⟨rfl, rfl, rfl, by decide +kernel, rfl, by decide +kernel, by decide +kernel⟩
abbrev s_InvalidNumber____init__ : Stmt := inClass (top 3) 0
theorem sc_InvalidNumber____init__ : FnScope ["self", "given"] ["self", "given"] (defScope s_InvalidNumber____init__) := ⟨rfl, rfl, rfl, by decide +kernel, rfl, by decide +kernel, by decide +kernel⟩
abbrev s_InvalidArray____init__ : Stmt := inClass (top 4) 0
theorem sc_InvalidArray____init__ : FnScope ["self", "given"] ["self", "given"] (defScope s_InvalidArray____init__) := ⟨rfl, rfl, rfl, by decide +kernel, rfl, by decide +kernel, by decide +kernel⟩
abbrev s_InvalidCost____init__ : Stmt := inClass (top 5) 0
theorem sc_InvalidCost____init__ : FnScope ["self", "given"] ["self", "given"] (defScope s_InvalidCost____init__) := ⟨rfl, rfl, rfl, by decide +kernel, rfl, by decide +kernel, by decide +kernel⟩
abbrev s_InvalidName____init__ : Stmt := inClass (top 6) 0
theorem sc_InvalidName____init__ : FnScope ["self", "given"] ["self", "given"] (defScope s_InvalidName____init__) := ⟨rfl, rfl, rfl, by decide +kernel, rfl, by decide +kernel, by decide +kernel⟩
abbrev s_InvalidWish____init__ : Stmt := inClass (top 7) 0
theorem sc_InvalidWish____init__ : FnScope ["self", "given"] ["self", "given"] (defScope s_InvalidWish____init__) := ⟨rfl, rfl, rfl, by decide +kernel, rfl, by decide +kernel, by decide +kernel⟩
abbrev s_NotALoop____init__ : Stmt := inClass (top 8) 0
theorem sc_NotALoop____init__ : FnScope ["self", "given"] ["self", "given"] (defScope s_NotALoop____init__) := ⟨rfl, rfl, rfl, by decide +kernel, rfl, by decide +kernel, by decide +kernel⟩
abbrev s_NotAProgram____init__ : Stmt := inClass (top 9) 0
theorem sc_NotAProgram____init__ : FnScope ["self", "given"] ["self", "given"] (defScope s_NotAProgram____init__) := ⟨rfl, rfl, rfl, by decide +kernel, rfl, by decide +kernel, by decide +kernel⟩
abbrev s_NotAWorld____init__ : Stmt := inClass (top 10) 0
theorem sc_NotAWorld____init__ : FnScope ["self", "given"] ["self", "given"] (defScope s_NotAWorld____init__) := ⟨rfl, rfl, rfl, by decide +kernel, rfl, by decide +kernel, by decide +kernel⟩
abbrev s_NotACounts____init__ : Stmt := inClass (top 11) 0
theorem sc_NotACounts____init__ : FnScope ["self", "given"] ["self", "given"] (defScope s_NotACounts____init__) := ⟨rfl, rfl, rfl, by decide +kernel, rfl, by decide +kernel, by decide +kernel⟩
abbrev s_NotAForm____init__ : Stmt := inClass (top 12) 0
theorem sc_NotAForm____init__ : FnScope ["self", "given"] ["self", "given"] (defScope s_NotAForm____init__) := ⟨rfl, rfl, rfl, by decide +kernel, rfl, by decide +kernel, by decide +kernel⟩
abbrev s_NotCosts____init__ : Stmt := inClass (top 13) 0
theorem sc_NotCosts____init__ : FnScope ["self", "given"] ["self", "given"] (defScope s_NotCosts____init__) := ⟨rfl, rfl, rfl, by decide +kernel, rfl, by decide +kernel, by decide +kernel⟩
abbrev s_UnknownInput____init__ : Stmt := inClass (top 15) 0
theorem sc_UnknownInput____init__ : FnScope ["self", "given"] ["self", "given"] (defScope s_UnknownInput____init__) := ⟨rfl, rfl, rfl, by decide +kernel, rfl, by decide +kernel, by decide +kernel⟩
abbrev s_OtherWords____init__ : Stmt := inClass (top 16) 0
theorem sc_OtherWords____init__ : FnScope ["self", "given"] ["self", "given"] (defScope s_OtherWords____init__) := ⟨rfl, rfl, rfl, by decide +kernel, rfl, by decide +kernel, by decide +kernel⟩
abbrev s_OtherOuts____init__ : Stmt := inClass (top 17) 0
theorem sc_OtherOuts____init__ : FnScope ["self", "given"] ["self", "given"] (defScope s_OtherOuts____init__) := ⟨rfl, rfl, rfl, by decide +kernel, rfl, by decide +kernel, by decide +kernel⟩
abbrev s_TooFar____init__ : Stmt := inClass (top 19) 0
theorem sc_TooFar____init__ : FnScope ["self", "given"] ["self", "given"] (defScope s_TooFar____init__) := ⟨rfl, rfl, rfl, by decide +kernel, rfl, by decide +kernel, by decide +kernel⟩
abbrev s_UnknownName____init__ : Stmt := inClass (top 20) 0
theorem sc_UnknownName____init__ : FnScope ["self", "given"] ["self", "given"] (defScope s_UnknownName____init__) := ⟨rfl, rfl, rfl, by decide +kernel, rfl, by decide +kernel, by decide +kernel⟩
abbrev s_InUse____init__ : Stmt := inClass (top 21) 0
theorem sc_InUse____init__ : FnScope ["self", "index"] ["self", "index"] (defScope s_InUse____init__) := ⟨rfl, rfl, rfl, by decide +kernel, rfl, by decide +kernel, by decide +kernel⟩
abbrev s_NotRight____init__ : Stmt := inClass (top 18) 0
theorem sc_NotRight____init__ : FnScope ["self", "count", "where"] ["self", "count", "where"] (defScope s_NotRight____init__) := ⟨rfl, rfl, rfl, by decide +kernel, rfl, by decide +kernel, by decide +kernel⟩
abbrev s_NotKept____init__ : Stmt := inClass (top 23) 0
theorem sc_NotKept____init__ : FnScope ["self", "index", "shown"] ["self", "index", "shown"] (defScope s_NotKept____init__) := ⟨rfl, rfl, rfl, by decide +kernel, rfl, by decide +kernel, by decide +kernel⟩
def fieldsOf (i : Nat) (v1 v2 : V) : List (Str × V) := if i < 17 then [("given", v1)] else if i = 17 then [("index", v1)] else if i = 18 then [("where", v2), ("count", v1)] else if i = 20 then [("shown", v2), ("index", v1)] else []
def spIni1 (C : Addr) (f : String) : Sp := fun vs H Q _ => ∃ (a : Addr) (v : V), vs = [.ref a, v] ∧ H a = some (exo a C none) ∧ ∀ dx, H dx = none → dx ≠ a → Q .non (L2.upd (L2.upd H dx (exd dx [(Str.ofString f, v)])) a (exo a C (some dx)))
def spIni2 (C : Addr) (f g : String) : Sp := fun vs H Q _ => ∃ (a : Addr) (v y : V), vs = [.ref a, v, y] ∧ H a = some (exo a C none) ∧
  ∀ dx, H dx = none → dx ≠ a → Q .non (L2.upd (L2.upd (L2.upd H dx (exd dx [(Str.ofString f, v)])) a (exo a C (some dx))) dx (exd dx [(Str.ofString g, y), (Str.ofString f, v)]))
section
variable {P : Program} {w : World} {K : PySem.W.Frag} {mg : Str → Option Value} {base : Heap} {C : Addr}
theorem ok_ini_InvalidText {f : Addr} {fd : FuncData} (F : Fun K "__init__" "InvalidText.__init__" s_InvalidText____init__ f fd) (T : Xc K C) (no : PySem.W.findIn K (.ref C) "given" = some none) : FG P w K mg base CX0 1 f fd ["self", "given"] (spIni1 C "given") := by
  refine fun_okG F sc_InvalidText____init__ (fun vs H Q E h => ?_) (fun cdv A outer s H vs Q E gd hr h => ?_)
  · obtain ⟨_, _, rfl, _⟩ := h
    rfl
  obtain ⟨a, v, rfl, ha, q⟩ := h
  exact ⟨_, (pss_one (ps_xst (pv 0) (pv 1))), _, rfl, _, rfl, a, C, rfl, T, no, .inl ⟨ha, fun dx h1 h2 => q dx h1 h2⟩⟩
theorem ok_ini_InvalidNumber {f : Addr} {fd : FuncData} (F : Fun K "__init__" "InvalidNumber.__init__" s_InvalidNumber____init__ f fd) (T : Xc K C) (no : PySem.W.findIn K (.ref C) "given" = some none) : FG P w K mg base CX0 1 f fd ["self", "given"] (spIni1 C "given") := by
  refine fun_okG F sc_InvalidNumber____init__ (fun vs H Q E h => ?_) (fun cdv A outer s H vs Q E gd hr h => ?_)
  · obtain ⟨_, _, rfl, _⟩ := h
    rfl
  obtain ⟨a, v, rfl, ha, q⟩ := h
  exact ⟨_, (pss_one (ps_xst (pv 0) (pv 1))), _, rfl, _, rfl, a, C, rfl, T, no, .inl ⟨ha, fun dx h1 h2 => q dx h1 h2⟩⟩
theorem ok_ini_InvalidArray {f : Addr} {fd : FuncData} (F : Fun K "__init__" "InvalidArray.__init__" s_InvalidArray____init__ f fd) (T : Xc K C) (no : PySem.W.findIn K (.ref C) "given" = some none) : FG P w K mg base CX0 1 f fd ["self", "given"] (spIni1 C "given") := by
  refine fun_okG F sc_InvalidArray____init__ (fun vs H Q E h => ?_) (fun cdv A outer s H vs Q E gd hr h => ?_)
  · obtain ⟨_, _, rfl, _⟩ := h
    rfl
  obtain ⟨a, v, rfl, ha, q⟩ := h
  exact ⟨_, (pss_one (ps_xst (pv 0) (pv 1))), _, rfl, _, rfl, a, C, rfl, T, no, .inl ⟨ha, fun dx h1 h2 => q dx h1 h2⟩⟩
theorem ok_ini_InvalidCost {f : Addr} {fd : FuncData} (F : Fun K "__init__" "InvalidCost.__init__" s_InvalidCost____init__ f fd) (T : Xc K C) (no : PySem.W.findIn K (.ref C) "given" = some none) : FG P w K mg base CX0 1 f fd ["self", "given"] (spIni1 C "given") := by
  refine fun_okG F sc_InvalidCost____init__ (fun vs H Q E h => ?_) (fun cdv A outer s H vs Q E gd hr h => ?_)
  · obtain ⟨_, _, rfl, _⟩ := h
    rfl
  obtain ⟨a, v, rfl, ha, q⟩ := h
  exact ⟨_, (pss_one (ps_xst (pv 0) (pv 1))), _, rfl, _, rfl, a, C, rfl, T, no, .inl ⟨ha, fun dx h1 h2 => q dx h1 h2⟩⟩
theorem ok_ini_InvalidName {f : Addr} {fd : FuncData} (F : Fun K "__init__" "InvalidName.__init__" s_InvalidName____init__ f fd) (T : Xc K C) (no : PySem.W.findIn K (.ref C) "given" = some none) : FG P w K mg base CX0 1 f fd ["self", "given"] (spIni1 C "given") := by
  refine fun_okG F sc_InvalidName____init__ (fun vs H Q E h => ?_) (fun cdv A outer s H vs Q E gd hr h => ?_)
  · obtain ⟨_, _, rfl, _⟩ := h
    rfl
  obtain ⟨a, v, rfl, ha, q⟩ := h
  exact ⟨_, (pss_one (ps_xst (pv 0) (pv 1))), _, rfl, _, rfl, a, C, rfl, T, no, .inl ⟨ha, fun dx h1 h2 => q dx h1 h2⟩⟩
theorem ok_ini_InvalidWish {f : Addr} {fd : FuncData} (F : Fun K "__init__" "InvalidWish.__init__" s_InvalidWish____init__ f fd) (T : Xc K C) (no : PySem.W.findIn K (.ref C) "given" = some none) : FG P w K mg base CX0 1 f fd ["self", "given"] (spIni1 C "given") := by
  refine fun_okG F sc_InvalidWish____init__ (fun vs H Q E h => ?_) (fun cdv A outer s H vs Q E gd hr h => ?_)
  · obtain ⟨_, _, rfl, _⟩ := h
    rfl
  obtain ⟨a, v, rfl, ha, q⟩ := h
  exact ⟨_, (pss_one (ps_xst (pv 0) (pv 1))), _, rfl, _, rfl, a, C, rfl, T, no, .inl ⟨ha, fun dx h1 h2 => q dx h1 h2⟩⟩
theorem ok_ini_NotALoop {f : Addr} {fd : FuncData} (F : Fun K "__init__" "NotALoop.__init__" s_NotALoop____init__ f fd) (T : Xc K C) (no : PySem.W.findIn K (.ref C) "given" = some none) : FG P w K mg base CX0 1 f fd ["self", "given"] (spIni1 C "given") := by
  refine fun_okG F sc_NotALoop____init__ (fun vs H Q E h => ?_) (fun cdv A outer s H vs Q E gd hr h => ?_)
  · obtain ⟨_, _, rfl, _⟩ := h
    rfl
  obtain ⟨a, v, rfl, ha, q⟩ := h
  exact ⟨_, (pss_one (ps_xst (pv 0) (pv 1))), _, rfl, _, rfl, a, C, rfl, T, no, .inl ⟨ha, fun dx h1 h2 => q dx h1 h2⟩⟩
theorem ok_ini_NotAProgram {f : Addr} {fd : FuncData} (F : Fun K "__init__" "NotAProgram.__init__" s_NotAProgram____init__ f fd) (T : Xc K C) (no : PySem.W.findIn K (.ref C) "given" = some none) : FG P w K mg base CX0 1 f fd ["self", "given"] (spIni1 C "given") := by
  refine fun_okG F sc_NotAProgram____init__ (fun vs H Q E h => ?_) (fun cdv A outer s H vs Q E gd hr h => ?_)
  · obtain ⟨_, _, rfl, _⟩ := h
    rfl
  obtain ⟨a, v, rfl, ha, q⟩ := h
  exact ⟨_, (pss_one (ps_xst (pv 0) (pv 1))), _, rfl, _, rfl, a, C, rfl, T, no, .inl ⟨ha, fun dx h1 h2 => q dx h1 h2⟩⟩
theorem ok_ini_NotAWorld {f : Addr} {fd : FuncData} (F : Fun K "__init__" "NotAWorld.__init__" s_NotAWorld____init__ f fd) (T : Xc K C) (no : PySem.W.findIn K (.ref C) "given" = some none) : FG P w K mg base CX0 1 f fd ["self", "given"] (spIni1 C "given") := by
  refine fun_okG F sc_NotAWorld____init__ (fun vs H Q E h => ?_) (fun cdv A outer s H vs Q E gd hr h => ?_)
  · obtain ⟨_, _, rfl, _⟩ := h
    rfl
  obtain ⟨a, v, rfl, ha, q⟩ := h
  exact ⟨_, (pss_one (ps_xst (pv 0) (pv 1))), _, rfl, _, rfl, a, C, rfl, T, no, .inl ⟨ha, fun dx h1 h2 => q dx h1 h2⟩⟩
theorem ok_ini_NotACounts {f : Addr} {fd : FuncData} (F : Fun K "__init__" "NotACounts.__init__" s_NotACounts____init__ f fd) (T : Xc K C) (no : PySem.W.findIn K (.ref C) "given" = some none) : FG P w K mg base CX0 1 f fd ["self", "given"] (spIni1 C "given") := by
  refine fun_okG F sc_NotACounts____init__ (fun vs H Q E h => ?_) (fun cdv A outer s H vs Q E gd hr h => ?_)
  · obtain ⟨_, _, rfl, _⟩ := h
    rfl
  obtain ⟨a, v, rfl, ha, q⟩ := h
  exact ⟨_, (pss_one (ps_xst (pv 0) (pv 1))), _, rfl, _, rfl, a, C, rfl, T, no, .inl ⟨ha, fun dx h1 h2 => q dx h1 h2⟩⟩
theorem ok_ini_NotAForm {f : Addr} {fd : FuncData} (F : Fun K "__init__" "NotAForm.__init__" s_NotAForm____init__ f fd) (T : Xc K C) (no : PySem.W.findIn K (.ref C) "given" = some none) : FG P w K mg base CX0 1 f fd ["self", "given"] (spIni1 C "given") := by
  refine fun_okG F sc_NotAForm____init__ (fun vs H Q E h => ?_) (fun cdv A outer s H vs Q E gd hr h => ?_)
  · obtain ⟨_, _, rfl, _⟩ := h
    rfl
  obtain ⟨a, v, rfl, ha, q⟩ := h
  exact ⟨_, (pss_one (ps_xst (pv 0) (pv 1))), _, rfl, _, rfl, a, C, rfl, T, no, .inl ⟨ha, fun dx h1 h2 => q dx h1 h2⟩⟩
theorem ok_ini_NotCosts {f : Addr} {fd : FuncData} (F : Fun K "__init__" "NotCosts.__init__" s_NotCosts____init__ f fd) (T : Xc K C) (no : PySem.W.findIn K (.ref C) "given" = some none) : FG P w K mg base CX0 1 f fd ["self", "given"] (spIni1 C "given") := by
  refine fun_okG F sc_NotCosts____init__ (fun vs H Q E h => ?_) (fun cdv A outer s H vs Q E gd hr h => ?_)
  · obtain ⟨_, _, rfl, _⟩ := h
    rfl
  obtain ⟨a, v, rfl, ha, q⟩ := h
  exact ⟨_, (pss_one (ps_xst (pv 0) (pv 1))), _, rfl, _, rfl, a, C, rfl, T, no, .inl ⟨ha, fun dx h1 h2 => q dx h1 h2⟩⟩
theorem ok_ini_UnknownInput {f : Addr} {fd : FuncData} (F : Fun K "__init__" "UnknownInput.__init__" s_UnknownInput____init__ f fd) (T : Xc K C) (no : PySem.W.findIn K (.ref C) "given" = some none) : FG P w K mg base CX0 1 f fd ["self", "given"] (spIni1 C "given") := by
  refine fun_okG F sc_UnknownInput____init__ (fun vs H Q E h => ?_) (fun cdv A outer s H vs Q E gd hr h => ?_)
  · obtain ⟨_, _, rfl, _⟩ := h
    rfl
  obtain ⟨a, v, rfl, ha, q⟩ := h
  exact ⟨_, (pss_one (ps_xst (pv 0) (pv 1))), _, rfl, _, rfl, a, C, rfl, T, no, .inl ⟨ha, fun dx h1 h2 => q dx h1 h2⟩⟩
theorem ok_ini_OtherWords {f : Addr} {fd : FuncData} (F : Fun K "__init__" "OtherWords.__init__" s_OtherWords____init__ f fd) (T : Xc K C) (no : PySem.W.findIn K (.ref C) "given" = some none) : FG P w K mg base CX0 1 f fd ["self", "given"] (spIni1 C "given") := by
  refine fun_okG F sc_OtherWords____init__ (fun vs H Q E h => ?_) (fun cdv A outer s H vs Q E gd hr h => ?_)
  · obtain ⟨_, _, rfl, _⟩ := h
    rfl
  obtain ⟨a, v, rfl, ha, q⟩ := h
  exact ⟨_, (pss_one (ps_xst (pv 0) (pv 1))), _, rfl, _, rfl, a, C, rfl, T, no, .inl ⟨ha, fun dx h1 h2 => q dx h1 h2⟩⟩
theorem ok_ini_OtherOuts {f : Addr} {fd : FuncData} (F : Fun K "__init__" "OtherOuts.__init__" s_OtherOuts____init__ f fd) (T : Xc K C) (no : PySem.W.findIn K (.ref C) "given" = some none) : FG P w K mg base CX0 1 f fd ["self", "given"] (spIni1 C "given") := by
  refine fun_okG F sc_OtherOuts____init__ (fun vs H Q E h => ?_) (fun cdv A outer s H vs Q E gd hr h => ?_)
  · obtain ⟨_, _, rfl, _⟩ := h
    rfl
  obtain ⟨a, v, rfl, ha, q⟩ := h
  exact ⟨_, (pss_one (ps_xst (pv 0) (pv 1))), _, rfl, _, rfl, a, C, rfl, T, no, .inl ⟨ha, fun dx h1 h2 => q dx h1 h2⟩⟩
theorem ok_ini_TooFar {f : Addr} {fd : FuncData} (F : Fun K "__init__" "TooFar.__init__" s_TooFar____init__ f fd) (T : Xc K C) (no : PySem.W.findIn K (.ref C) "given" = some none) : FG P w K mg base CX0 1 f fd ["self", "given"] (spIni1 C "given") := by
  refine fun_okG F sc_TooFar____init__ (fun vs H Q E h => ?_) (fun cdv A outer s H vs Q E gd hr h => ?_)
  · obtain ⟨_, _, rfl, _⟩ := h
    rfl
  obtain ⟨a, v, rfl, ha, q⟩ := h
  exact ⟨_, (pss_one (ps_xst (pv 0) (pv 1))), _, rfl, _, rfl, a, C, rfl, T, no, .inl ⟨ha, fun dx h1 h2 => q dx h1 h2⟩⟩
theorem ok_ini_UnknownName {f : Addr} {fd : FuncData} (F : Fun K "__init__" "UnknownName.__init__" s_UnknownName____init__ f fd) (T : Xc K C) (no : PySem.W.findIn K (.ref C) "given" = some none) : FG P w K mg base CX0 1 f fd ["self", "given"] (spIni1 C "given") := by
  refine fun_okG F sc_UnknownName____init__ (fun vs H Q E h => ?_) (fun cdv A outer s H vs Q E gd hr h => ?_)
  · obtain ⟨_, _, rfl, _⟩ := h
    rfl
  obtain ⟨a, v, rfl, ha, q⟩ := h
  exact ⟨_, (pss_one (ps_xst (pv 0) (pv 1))), _, rfl, _, rfl, a, C, rfl, T, no, .inl ⟨ha, fun dx h1 h2 => q dx h1 h2⟩⟩
theorem ok_ini_InUse {f : Addr} {fd : FuncData} (F : Fun K "__init__" "InUse.__init__" s_InUse____init__ f fd) (T : Xc K C) (no : PySem.W.findIn K (.ref C) "index" = some none) : FG P w K mg base CX0 1 f fd ["self", "index"] (spIni1 C "index") := by
  refine fun_okG F sc_InUse____init__ (fun vs H Q E h => ?_) (fun cdv A outer s H vs Q E gd hr h => ?_)
  · obtain ⟨_, _, rfl, _⟩ := h
    rfl
  obtain ⟨a, v, rfl, ha, q⟩ := h
  exact ⟨_, (pss_one (ps_xst (pv 0) (pv 1))), _, rfl, _, rfl, a, C, rfl, T, no, .inl ⟨ha, fun dx h1 h2 => q dx h1 h2⟩⟩
theorem ok_ini_NotRight {f : Addr} {fd : FuncData} (F : Fun K "__init__" "NotRight.__init__" s_NotRight____init__ f fd) (T : Xc K C) (no : PySem.W.findIn K (.ref C) "count" = some none) (no2 : PySem.W.findIn K (.ref C) "where" = some none) : FG P w K mg base CX0 1 f fd ["self", "count", "where"] (spIni2 C "count" "where") := by
  refine fun_okG F sc_NotRight____init__ (fun vs H Q E h => ?_) (fun cdv A outer s H vs Q E gd hr h => ?_)
  · obtain ⟨_, _, _, rfl, _⟩ := h
    rfl
  obtain ⟨a, v, y, rfl, ha, q⟩ := h
  refine ⟨_, (pss_cons (ps_xst (pv 0) (pv 1))
      (pss_one (ps_xst (pv 0) (pv 2)))), _, rfl, _, rfl, a, C, rfl, T, no, .inl ⟨ha, fun dx h1 h2 => ?_⟩⟩
  exact ⟨_, rfl, _, rfl, a, C, rfl, T, no2, .inr ⟨dx, _, upd_same, (upd_ne h2).trans upd_same, (by show 1 ≤ 900; decide), q dx h1 h2⟩⟩
theorem ok_ini_NotKept {f : Addr} {fd : FuncData} (F : Fun K "__init__" "NotKept.__init__" s_NotKept____init__ f fd) (T : Xc K C) (no : PySem.W.findIn K (.ref C) "index" = some none) (no2 : PySem.W.findIn K (.ref C) "shown" = some none) : FG P w K mg base CX0 1 f fd ["self", "index", "shown"] (spIni2 C "index" "shown") := by
  refine fun_okG F sc_NotKept____init__ (fun vs H Q E h => ?_) (fun cdv A outer s H vs Q E gd hr h => ?_)
  · obtain ⟨_, _, _, rfl, _⟩ := h
    rfl
  obtain ⟨a, v, y, rfl, ha, q⟩ := h
  refine ⟨_, (pss_cons (ps_xst (pv 0) (pv 1))
      (pss_one (ps_xst (pv 0) (pv 2)))), _, rfl, _, rfl, a, C, rfl, T, no, .inl ⟨ha, fun dx h1 h2 => ?_⟩⟩
  exact ⟨_, rfl, _, rfl, a, C, rfl, T, no2, .inr ⟨dx, _, upd_same, (upd_ne h2).trans upd_same, (by show 1 ≤ 900; decide), q dx h1 h2⟩⟩
end
end Lk
set_option Elab.async false
set_option linter.all false
namespace Lk
open PySem PySem.Spec PyProof.Rows L2 G TL
/-! ### all of them -/
abbrev s__law_by_place : Stmt := top 38
theorem sc__law_by_place : FnScope ["one", "two", "some"] ["one", "two"] (defScope s__law_by_place) := ⟨rfl, rfl, rfl, by decide +kernel, rfl, by decide +kernel, by decide +kernel⟩
abbrev s__law_by_name : Stmt := top 39
theorem sc__law_by_name : FnScope ["one", "two", "some"] ["one", "two"] (defScope s__law_by_name) := ⟨rfl, rfl, rfl, by decide +kernel, rfl, by decide +kernel, by decide +kernel⟩
def kSM {α : Type} : List α → List α → List α := fun us ws => us ++ ws.reverse
def kN {α : Type} : List α → List α → List α := fun us ws => us ++ ws
structure TxE (K : PySem.W.Frag) (mg : Str → Option Value) (Ct : Nat → Addr) : Prop where
  xc : ∀ i, i < 21 → Xc K (Ct i)
  g_NothingToUndo : mg "NothingToUndo" = some (.ref (Ct 19))
  q_NothingToUndo : PySem.W.excIn K (Ct 19) (above "LookupError") "LookupError.__new__" = true
  k_NothingToUndo : PySem.W.keepIn K (.ref (Ct 19)) = true
structure Mks (P : Program) (w : World) (K : PySem.W.Frag) (mg : Str → Option Value) (base : Heap) (Ct : Nat → Addr) : Prop where
  k_InvalidText : MkX P w K mg base "InvalidText" (Ct 0) 1 ["self", "given"] (spIni1 (Ct 0) "given")
  kk_InvalidText : MkXK P w K mg base "InvalidText" (Ct 0) 1 ["self", "given"] ["given"] kN (spIni1 (Ct 0) "given")
  k_InvalidNumber : MkX P w K mg base "InvalidNumber" (Ct 1) 1 ["self", "given"] (spIni1 (Ct 1) "given")
  kk_InvalidNumber : MkXK P w K mg base "InvalidNumber" (Ct 1) 1 ["self", "given"] ["given"] kN (spIni1 (Ct 1) "given")
  k_InvalidArray : MkX P w K mg base "InvalidArray" (Ct 2) 1 ["self", "given"] (spIni1 (Ct 2) "given")
  kk_InvalidArray : MkXK P w K mg base "InvalidArray" (Ct 2) 1 ["self", "given"] ["given"] kN (spIni1 (Ct 2) "given")
  k_InvalidCost : MkX P w K mg base "InvalidCost" (Ct 3) 1 ["self", "given"] (spIni1 (Ct 3) "given")
  kk_InvalidCost : MkXK P w K mg base "InvalidCost" (Ct 3) 1 ["self", "given"] ["given"] kN (spIni1 (Ct 3) "given")
  k_InvalidName : MkX P w K mg base "InvalidName" (Ct 4) 1 ["self", "given"] (spIni1 (Ct 4) "given")
  kk_InvalidName : MkXK P w K mg base "InvalidName" (Ct 4) 1 ["self", "given"] ["given"] kN (spIni1 (Ct 4) "given")
  k_InvalidWish : MkX P w K mg base "InvalidWish" (Ct 5) 1 ["self", "given"] (spIni1 (Ct 5) "given")
  kk_InvalidWish : MkXK P w K mg base "InvalidWish" (Ct 5) 1 ["self", "given"] ["given"] kN (spIni1 (Ct 5) "given")
  k_NotALoop : MkX P w K mg base "NotALoop" (Ct 6) 1 ["self", "given"] (spIni1 (Ct 6) "given")
  kk_NotALoop : MkXK P w K mg base "NotALoop" (Ct 6) 1 ["self", "given"] ["given"] kN (spIni1 (Ct 6) "given")
  k_NotAProgram : MkX P w K mg base "NotAProgram" (Ct 7) 1 ["self", "given"] (spIni1 (Ct 7) "given")
  kk_NotAProgram : MkXK P w K mg base "NotAProgram" (Ct 7) 1 ["self", "given"] ["given"] kN (spIni1 (Ct 7) "given")
  k_NotAWorld : MkX P w K mg base "NotAWorld" (Ct 8) 1 ["self", "given"] (spIni1 (Ct 8) "given")
  kk_NotAWorld : MkXK P w K mg base "NotAWorld" (Ct 8) 1 ["self", "given"] ["given"] kN (spIni1 (Ct 8) "given")
  k_NotACounts : MkX P w K mg base "NotACounts" (Ct 9) 1 ["self", "given"] (spIni1 (Ct 9) "given")
  kk_NotACounts : MkXK P w K mg base "NotACounts" (Ct 9) 1 ["self", "given"] ["given"] kN (spIni1 (Ct 9) "given")
  k_NotAForm : MkX P w K mg base "NotAForm" (Ct 10) 1 ["self", "given"] (spIni1 (Ct 10) "given")
  kk_NotAForm : MkXK P w K mg base "NotAForm" (Ct 10) 1 ["self", "given"] ["given"] kN (spIni1 (Ct 10) "given")
  k_NotCosts : MkX P w K mg base "NotCosts" (Ct 11) 1 ["self", "given"] (spIni1 (Ct 11) "given")
  kk_NotCosts : MkXK P w K mg base "NotCosts" (Ct 11) 1 ["self", "given"] ["given"] kN (spIni1 (Ct 11) "given")
  k_UnknownInput : MkX P w K mg base "UnknownInput" (Ct 12) 1 ["self", "given"] (spIni1 (Ct 12) "given")
  kk_UnknownInput : MkXK P w K mg base "UnknownInput" (Ct 12) 1 ["self", "given"] ["given"] kN (spIni1 (Ct 12) "given")
  k_OtherWords : MkX P w K mg base "OtherWords" (Ct 13) 1 ["self", "given"] (spIni1 (Ct 13) "given")
  kk_OtherWords : MkXK P w K mg base "OtherWords" (Ct 13) 1 ["self", "given"] ["given"] kN (spIni1 (Ct 13) "given")
  k_OtherOuts : MkX P w K mg base "OtherOuts" (Ct 14) 1 ["self", "given"] (spIni1 (Ct 14) "given")
  kk_OtherOuts : MkXK P w K mg base "OtherOuts" (Ct 14) 1 ["self", "given"] ["given"] kN (spIni1 (Ct 14) "given")
  k_TooFar : MkX P w K mg base "TooFar" (Ct 15) 1 ["self", "given"] (spIni1 (Ct 15) "given")
  kk_TooFar : MkXK P w K mg base "TooFar" (Ct 15) 1 ["self", "given"] ["given"] kN (spIni1 (Ct 15) "given")
  k_UnknownName : MkX P w K mg base "UnknownName" (Ct 16) 1 ["self", "given"] (spIni1 (Ct 16) "given")
  kk_UnknownName : MkXK P w K mg base "UnknownName" (Ct 16) 1 ["self", "given"] ["given"] kN (spIni1 (Ct 16) "given")
  k_InUse : MkX P w K mg base "InUse" (Ct 17) 1 ["self", "index"] (spIni1 (Ct 17) "index")
  kk_InUse : MkXK P w K mg base "InUse" (Ct 17) 1 ["self", "index"] ["index"] kN (spIni1 (Ct 17) "index")
  k_NotRight : MkX P w K mg base "NotRight" (Ct 18) 1 ["self", "count", "where"] (spIni2 (Ct 18) "count" "where")
  kk_NotRight : MkXK P w K mg base "NotRight" (Ct 18) 1 ["self", "count", "where"] ["where", "count"] kSM (spIni2 (Ct 18) "count" "where")
  k_NotKept : MkX P w K mg base "NotKept" (Ct 20) 1 ["self", "index", "shown"] (spIni2 (Ct 20) "index" "shown")
  kk_NotKept : MkXK P w K mg base "NotKept" (Ct 20) 1 ["self", "index", "shown"] ["shown", "index"] kSM (spIni2 (Ct 20) "index" "shown")
def FullAt (C : Addr) (fs : List (Str × V)) (H : Hp) (a : Addr) : Prop := ∃ d, H a = some (exo a C d) ∧ (fs ≠ [] → ∃ dx, d = some dx ∧ H dx = some (exd dx fs)) ∧ ∀ dx, d = some dx → ∃ gs, H dx = some (exd dx gs)
theorem FullAt.mono {C : Addr} {fs : List (Str × V)} {H H2 : Hp} {a : Addr} (f : FullAt C fs H a) (c : Same H H2) : FullAt C fs H2 a := by
  obtain ⟨d, e, k1, k2⟩ := f
  refine ⟨d, c _ _ e, fun n => ?_, fun dx z => ?_⟩
  · obtain ⟨dx, z, h⟩ := k1 n
    exact ⟨dx, z, c _ _ h⟩
  · obtain ⟨gs, h⟩ := k2 dx z
    exact ⟨gs, c _ _ h⟩
theorem FullAt.ex {C : Addr} {fs : List (Str × V)} {H : Hp} {a : Addr} (f : FullAt C fs H a) : ExAt C H a := by
  obtain ⟨d, e, _, k2⟩ := f
  exact ⟨d, e, k2⟩
theorem born1 {H : Hp} {a dx C : Addr} {fs : List (Str × V)} (h1 : H a = none) (h2 : (L2.upd H a (exo a C none)) dx = none) (ne : dx ≠ a) :
    Same H (L2.upd (L2.upd (L2.upd H a (exo a C none)) dx (exd dx fs)) a (exo a C (some dx))) ∧ FullAt C fs (L2.upd (L2.upd (L2.upd H a (exo a C none)) dx (exd dx fs)) a (exo a C (some dx))) a := by
  rw [upd_ne ne] at h2
  refine ⟨fun b o e => ?_, some dx, upd_same, fun _ => ⟨dx, rfl, (upd_ne ne).trans upd_same⟩, fun d2 z => ?_⟩
  · rw [upd_ne (ne_of_none e h1), upd_ne (ne_of_none e h2), upd_ne (ne_of_none e h1)]
    exact e
  · obtain rfl := Option.some.inj z
    exact ⟨_, (upd_ne ne).trans upd_same⟩
theorem born2 {H : Hp} {a dx C : Addr} {fs gs : List (Str × V)} (h1 : H a = none) (h2 : (L2.upd H a (exo a C none)) dx = none) (ne : dx ≠ a) :
    Same H (L2.upd (L2.upd (L2.upd (L2.upd H a (exo a C none)) dx (exd dx fs)) a (exo a C (some dx))) dx (exd dx gs)) ∧ FullAt C gs (L2.upd (L2.upd (L2.upd (L2.upd H a (exo a C none)) dx (exd dx fs)) a (exo a C (some dx))) dx (exd dx gs)) a := by
  rw [upd_ne ne] at h2
  refine ⟨fun b o e => ?_, some dx, (upd_ne ne.symm).trans upd_same, fun _ => ⟨dx, rfl, upd_same⟩, fun d2 z => ?_⟩
  · rw [upd_ne (ne_of_none e h2), upd_ne (ne_of_none e h1), upd_ne (ne_of_none e h2), upd_ne (ne_of_none e h1)]
    exact e
  · obtain rfl := Option.some.inj z
    exact ⟨_, upd_same⟩
theorem born0 {H : Hp} {a C : Addr} (h1 : H a = none) : Same H (L2.upd H a (exo a C none)) ∧ FullAt C [] (L2.upd H a (exo a C none)) a :=
  ⟨Same.new (Same.refl _) h1, none, upd_same, fun n => absurd rfl n, fun dx z => by cases z⟩
def spAll (Ct : Nat → Addr) : Sp := fun vs H Q _ => ∃ v1 v2 : V, vs = [v1, v2] ∧ ∀ (L : Addr) (as : List Addr) H', as.length = 21 → (∀ i a, as[i]? = some a → FullAt (Ct i) (fieldsOf i v1 v2) H' a) → H' L = some (.lst (as.map V.ref)) → Same H H' → Q (.ref L) H'
section
variable {P : Program} {w : World} {K : PySem.W.Frag} {mg : Str → Option Value} {base : Heap} {Ct : Nat → Addr}
theorem lk {n : Nat} (h : n ≤ 2) : n ≤ 1000 := Nat.le_trans h (by decide)
theorem ok_place {f : Addr} {fd : FuncData} (F : Fun K "_law_by_place" "_law_by_place" s__law_by_place f fd) (T : TxE K mg Ct) (M : Mks P w K mg base Ct) : FG P w K mg base CX0 3 f fd ["one", "two"] (spAll Ct) := by
  refine fun_okG F sc__law_by_place (fun vs H Q E h => ?_) (fun cdv A outer s H vs Q E gd hr h => ?_)
  · obtain ⟨_, _, rfl, _⟩ := h
    rfl
  have nd := sc__law_by_place.nd
  obtain ⟨v1, v2, rfl, q⟩ := h
  -- one 0, two 1, some 2
  refine ⟨_, (pss_cons (ps_set (i := 2) nd rfl (Or.inl rfl) (pe_lst (pa_cons (pe_xmk (T.xc 0 (by decide)) M.k_InvalidText gd (hr.mono (by decide)) (by rfl) (pa_cons (pv 0) pa_nil)) (pa_cons (pe_xmk (T.xc 1 (by decide)) M.k_InvalidNumber gd (hr.mono (by decide)) (by rfl) (pa_cons (pv 0) pa_nil)) (pa_cons (pe_xmk (T.xc 2 (by decide)) M.k_InvalidArray gd (hr.mono (by decide)) (by rfl) (pa_cons (pv 0) pa_nil)) (pa_cons (pe_xmk (T.xc 3 (by decide)) M.k_InvalidCost gd (hr.mono (by decide)) (by rfl) (pa_cons (pv 0) pa_nil)) (pa_cons (pe_xmk (T.xc 4 (by decide)) M.k_InvalidName gd (hr.mono (by decide)) (by rfl) (pa_cons (pv 0) pa_nil)) pa_nil)))))))
      (pss_cons (ps_set (i := 2) nd rfl (Or.inl rfl) (pe_op op_cat (pv 2) (pe_lst (pa_cons (pe_xmk (T.xc 5 (by decide)) M.k_InvalidWish gd (hr.mono (by decide)) (by rfl) (pa_cons (pv 0) pa_nil)) (pa_cons (pe_xmk (T.xc 6 (by decide)) M.k_NotALoop gd (hr.mono (by decide)) (by rfl) (pa_cons (pv 0) pa_nil)) (pa_cons (pe_xmk (T.xc 7 (by decide)) M.k_NotAProgram gd (hr.mono (by decide)) (by rfl) (pa_cons (pv 0) pa_nil)) (pa_cons (pe_xmk (T.xc 8 (by decide)) M.k_NotAWorld gd (hr.mono (by decide)) (by rfl) (pa_cons (pv 0) pa_nil)) (pa_cons (pe_xmk (T.xc 9 (by decide)) M.k_NotACounts gd (hr.mono (by decide)) (by rfl) (pa_cons (pv 0) pa_nil)) pa_nil))))))))
      (pss_cons (ps_set (i := 2) nd rfl (Or.inl rfl) (pe_op op_cat (pv 2) (pe_lst (pa_cons (pe_xmk (T.xc 10 (by decide)) M.k_NotAForm gd (hr.mono (by decide)) (by rfl) (pa_cons (pv 0) pa_nil)) (pa_cons (pe_xmk (T.xc 11 (by decide)) M.k_NotCosts gd (hr.mono (by decide)) (by rfl) (pa_cons (pv 0) pa_nil)) (pa_cons (pe_xmk (T.xc 12 (by decide)) M.k_UnknownInput gd (hr.mono (by decide)) (by rfl) (pa_cons (pv 0) pa_nil)) (pa_cons (pe_xmk (T.xc 13 (by decide)) M.k_OtherWords gd (hr.mono (by decide)) (by rfl) (pa_cons (pv 0) pa_nil)) (pa_cons (pe_xmk (T.xc 14 (by decide)) M.k_OtherOuts gd (hr.mono (by decide)) (by rfl) (pa_cons (pv 0) pa_nil)) pa_nil))))))))
      (pss_cons (ps_set (i := 2) nd rfl (Or.inl rfl) (pe_op op_cat (pv 2) (pe_lst (pa_cons (pe_xmk (T.xc 15 (by decide)) M.k_TooFar gd (hr.mono (by decide)) (by rfl) (pa_cons (pv 0) pa_nil)) (pa_cons (pe_xmk (T.xc 16 (by decide)) M.k_UnknownName gd (hr.mono (by decide)) (by rfl) (pa_cons (pv 0) pa_nil)) (pa_cons (pe_xmk (T.xc 17 (by decide)) M.k_InUse gd (hr.mono (by decide)) (by rfl) (pa_cons (pv 0) pa_nil)) (pa_cons (pe_xmk (T.xc 18 (by decide)) M.k_NotRight gd (hr.mono (by decide)) (by rfl) (pa_cons (pv 0) (pa_cons (pv 1) pa_nil))) (pa_cons (pe_xmk0 rootL.base T.q_NothingToUndo T.g_NothingToUndo T.k_NothingToUndo (by rfl)) pa_nil))))))))
      (pss_one (ps_ret (pe_op op_cat (pv 2) (pe_lst (pa_cons (pe_xmk (T.xc 20 (by decide)) M.k_NotKept gd (hr.mono (by decide)) (by rfl) (pa_cons (pv 0) (pa_cons (pv 1) pa_nil))) pa_nil))))))))), ?_⟩
  refine ⟨_, rfl, lk (by simp), fun a0 h0 => ⟨a0, v1, rfl, upd_same, fun d0 e0 n0 => ⟨rfl, ?_⟩⟩⟩
  obtain ⟨b0, f0⟩ := born1 (fs := [(Str.ofString "given", v1)]) h0 e0 n0
  generalize L2.upd (L2.upd (L2.upd H a0 (exo a0 (Ct 0) none)) d0 (exd d0 [(Str.ofString "given", v1)])) a0 (exo a0 (Ct 0) (some d0)) = G1 at *
  refine ⟨_, rfl, lk (by simp), fun a1 h1 => ⟨a1, v1, rfl, upd_same, fun d1 e1 n1 => ⟨rfl, ?_⟩⟩⟩
  obtain ⟨b1, f1⟩ := born1 (fs := [(Str.ofString "given", v1)]) h1 e1 n1
  generalize L2.upd (L2.upd (L2.upd G1 a1 (exo a1 (Ct 1) none)) d1 (exd d1 [(Str.ofString "given", v1)])) a1 (exo a1 (Ct 1) (some d1)) = G2 at *
  refine ⟨_, rfl, lk (by simp), fun a2 h2 => ⟨a2, v1, rfl, upd_same, fun d2 e2 n2 => ⟨rfl, ?_⟩⟩⟩
  obtain ⟨b2, f2⟩ := born1 (fs := [(Str.ofString "given", v1)]) h2 e2 n2
  generalize L2.upd (L2.upd (L2.upd G2 a2 (exo a2 (Ct 2) none)) d2 (exd d2 [(Str.ofString "given", v1)])) a2 (exo a2 (Ct 2) (some d2)) = G3 at *
  refine ⟨_, rfl, lk (by simp), fun a3 h3 => ⟨a3, v1, rfl, upd_same, fun d3 e3 n3 => ⟨rfl, ?_⟩⟩⟩
  obtain ⟨b3, f3⟩ := born1 (fs := [(Str.ofString "given", v1)]) h3 e3 n3
  generalize L2.upd (L2.upd (L2.upd G3 a3 (exo a3 (Ct 3) none)) d3 (exd d3 [(Str.ofString "given", v1)])) a3 (exo a3 (Ct 3) (some d3)) = G4 at *
  refine ⟨_, rfl, lk (by simp), fun a4 h4 => ⟨a4, v1, rfl, upd_same, fun d4 e4 n4 => ⟨rfl, ?_⟩⟩⟩
  obtain ⟨b4, f4⟩ := born1 (fs := [(Str.ofString "given", v1)]) h4 e4 n4
  generalize L2.upd (L2.upd (L2.upd G4 a4 (exo a4 (Ct 4) none)) d4 (exd d4 [(Str.ofString "given", v1)])) a4 (exo a4 (Ct 4) (some d4)) = G5 at *
  refine ⟨lz (by simp), fun l0 hl0 => ?_⟩
  dsimp only [tNil]
  have g0 : Same G5 (L2.upd G5 l0 (.lst [V.ref a0, V.ref a1, V.ref a2, V.ref a3, V.ref a4])) := Same.new (Same.refl _) hl0
  have k0 : (L2.upd G5 l0 (.lst [V.ref a0, V.ref a1, V.ref a2, V.ref a3, V.ref a4])) l0 = some (.lst [V.ref a0, V.ref a1, V.ref a2, V.ref a3, V.ref a4]) := upd_same
  generalize L2.upd G5 l0 (.lst [V.ref a0, V.ref a1, V.ref a2, V.ref a3, V.ref a4]) = I0 at *
  refine Exists.intro _ ⟨rfl, ?_⟩
  refine ⟨_, rfl, lk (by simp), fun a5 h5 => ⟨a5, v1, rfl, upd_same, fun d5 e5 n5 => ⟨rfl, ?_⟩⟩⟩
  obtain ⟨b5, f5⟩ := born1 (fs := [(Str.ofString "given", v1)]) h5 e5 n5
  generalize L2.upd (L2.upd (L2.upd I0 a5 (exo a5 (Ct 5) none)) d5 (exd d5 [(Str.ofString "given", v1)])) a5 (exo a5 (Ct 5) (some d5)) = G6 at *
  refine ⟨_, rfl, lk (by simp), fun a6 h6 => ⟨a6, v1, rfl, upd_same, fun d6 e6 n6 => ⟨rfl, ?_⟩⟩⟩
  obtain ⟨b6, f6⟩ := born1 (fs := [(Str.ofString "given", v1)]) h6 e6 n6
  generalize L2.upd (L2.upd (L2.upd G6 a6 (exo a6 (Ct 6) none)) d6 (exd d6 [(Str.ofString "given", v1)])) a6 (exo a6 (Ct 6) (some d6)) = G7 at *
  refine ⟨_, rfl, lk (by simp), fun a7 h7 => ⟨a7, v1, rfl, upd_same, fun d7 e7 n7 => ⟨rfl, ?_⟩⟩⟩
  obtain ⟨b7, f7⟩ := born1 (fs := [(Str.ofString "given", v1)]) h7 e7 n7
  generalize L2.upd (L2.upd (L2.upd G7 a7 (exo a7 (Ct 7) none)) d7 (exd d7 [(Str.ofString "given", v1)])) a7 (exo a7 (Ct 7) (some d7)) = G8 at *
  refine ⟨_, rfl, lk (by simp), fun a8 h8 => ⟨a8, v1, rfl, upd_same, fun d8 e8 n8 => ⟨rfl, ?_⟩⟩⟩
  obtain ⟨b8, f8⟩ := born1 (fs := [(Str.ofString "given", v1)]) h8 e8 n8
  generalize L2.upd (L2.upd (L2.upd G8 a8 (exo a8 (Ct 8) none)) d8 (exd d8 [(Str.ofString "given", v1)])) a8 (exo a8 (Ct 8) (some d8)) = G9 at *
  refine ⟨_, rfl, lk (by simp), fun a9 h9 => ⟨a9, v1, rfl, upd_same, fun d9 e9 n9 => ⟨rfl, ?_⟩⟩⟩
  obtain ⟨b9, f9⟩ := born1 (fs := [(Str.ofString "given", v1)]) h9 e9 n9
  generalize L2.upd (L2.upd (L2.upd G9 a9 (exo a9 (Ct 9) none)) d9 (exd d9 [(Str.ofString "given", v1)])) a9 (exo a9 (Ct 9) (some d9)) = G10 at *
  refine ⟨lz (by simp), fun l1 hl1 => ?_⟩
  dsimp only [tNil]
  have g1 : Same G10 (L2.upd G10 l1 (.lst [V.ref a5, V.ref a6, V.ref a7, V.ref a8, V.ref a9])) := Same.new (Same.refl _) hl1
  have k1 : (L2.upd G10 l1 (.lst [V.ref a5, V.ref a6, V.ref a7, V.ref a8, V.ref a9])) l1 = some (.lst [V.ref a5, V.ref a6, V.ref a7, V.ref a8, V.ref a9]) := upd_same
  generalize L2.upd G10 l1 (.lst [V.ref a5, V.ref a6, V.ref a7, V.ref a8, V.ref a9]) = I1 at *
  have p1 := ((((((b5).trans b6).trans b7).trans b8).trans b9).trans g1) _ _ k0
  refine ⟨_, _, _, _, rfl, rfl, p1, k1, lz (by simp), fun c1 hc1 => ?_⟩
  have u1 : Same I1 (L2.upd I1 c1 (.lst ([V.ref a0, V.ref a1, V.ref a2, V.ref a3, V.ref a4] ++ [V.ref a5, V.ref a6, V.ref a7, V.ref a8, V.ref a9]))) := Same.new (Same.refl _) hc1
  have w1 : (L2.upd I1 c1 (.lst ([V.ref a0, V.ref a1, V.ref a2, V.ref a3, V.ref a4] ++ [V.ref a5, V.ref a6, V.ref a7, V.ref a8, V.ref a9]))) c1 = some (.lst [V.ref a0, V.ref a1, V.ref a2, V.ref a3, V.ref a4, V.ref a5, V.ref a6, V.ref a7, V.ref a8, V.ref a9]) := upd_same
  generalize L2.upd I1 c1 (.lst ([V.ref a0, V.ref a1, V.ref a2, V.ref a3, V.ref a4] ++ [V.ref a5, V.ref a6, V.ref a7, V.ref a8, V.ref a9])) = J1 at *
  refine Exists.intro _ ⟨rfl, ?_⟩
  refine ⟨_, rfl, lk (by simp), fun a10 h10 => ⟨a10, v1, rfl, upd_same, fun d10 e10 n10 => ⟨rfl, ?_⟩⟩⟩
  obtain ⟨b10, f10⟩ := born1 (fs := [(Str.ofString "given", v1)]) h10 e10 n10
  generalize L2.upd (L2.upd (L2.upd J1 a10 (exo a10 (Ct 10) none)) d10 (exd d10 [(Str.ofString "given", v1)])) a10 (exo a10 (Ct 10) (some d10)) = G11 at *
  refine ⟨_, rfl, lk (by simp), fun a11 h11 => ⟨a11, v1, rfl, upd_same, fun d11 e11 n11 => ⟨rfl, ?_⟩⟩⟩
  obtain ⟨b11, f11⟩ := born1 (fs := [(Str.ofString "given", v1)]) h11 e11 n11
  generalize L2.upd (L2.upd (L2.upd G11 a11 (exo a11 (Ct 11) none)) d11 (exd d11 [(Str.ofString "given", v1)])) a11 (exo a11 (Ct 11) (some d11)) = G12 at *
  refine ⟨_, rfl, lk (by simp), fun a12 h12 => ⟨a12, v1, rfl, upd_same, fun d12 e12 n12 => ⟨rfl, ?_⟩⟩⟩
  obtain ⟨b12, f12⟩ := born1 (fs := [(Str.ofString "given", v1)]) h12 e12 n12
  generalize L2.upd (L2.upd (L2.upd G12 a12 (exo a12 (Ct 12) none)) d12 (exd d12 [(Str.ofString "given", v1)])) a12 (exo a12 (Ct 12) (some d12)) = G13 at *
  refine ⟨_, rfl, lk (by simp), fun a13 h13 => ⟨a13, v1, rfl, upd_same, fun d13 e13 n13 => ⟨rfl, ?_⟩⟩⟩
  obtain ⟨b13, f13⟩ := born1 (fs := [(Str.ofString "given", v1)]) h13 e13 n13
  generalize L2.upd (L2.upd (L2.upd G13 a13 (exo a13 (Ct 13) none)) d13 (exd d13 [(Str.ofString "given", v1)])) a13 (exo a13 (Ct 13) (some d13)) = G14 at *
  refine ⟨_, rfl, lk (by simp), fun a14 h14 => ⟨a14, v1, rfl, upd_same, fun d14 e14 n14 => ⟨rfl, ?_⟩⟩⟩
  obtain ⟨b14, f14⟩ := born1 (fs := [(Str.ofString "given", v1)]) h14 e14 n14
  generalize L2.upd (L2.upd (L2.upd G14 a14 (exo a14 (Ct 14) none)) d14 (exd d14 [(Str.ofString "given", v1)])) a14 (exo a14 (Ct 14) (some d14)) = G15 at *
  refine ⟨lz (by simp), fun l2 hl2 => ?_⟩
  dsimp only [tNil]
  have g2 : Same G15 (L2.upd G15 l2 (.lst [V.ref a10, V.ref a11, V.ref a12, V.ref a13, V.ref a14])) := Same.new (Same.refl _) hl2
  have k2 : (L2.upd G15 l2 (.lst [V.ref a10, V.ref a11, V.ref a12, V.ref a13, V.ref a14])) l2 = some (.lst [V.ref a10, V.ref a11, V.ref a12, V.ref a13, V.ref a14]) := upd_same
  generalize L2.upd G15 l2 (.lst [V.ref a10, V.ref a11, V.ref a12, V.ref a13, V.ref a14]) = I2 at *
  have p2 := ((((((b10).trans b11).trans b12).trans b13).trans b14).trans g2) _ _ w1
  refine ⟨_, _, _, _, rfl, rfl, p2, k2, lz (by simp), fun c2 hc2 => ?_⟩
  have u2 : Same I2 (L2.upd I2 c2 (.lst ([V.ref a0, V.ref a1, V.ref a2, V.ref a3, V.ref a4, V.ref a5, V.ref a6, V.ref a7, V.ref a8, V.ref a9] ++ [V.ref a10, V.ref a11, V.ref a12, V.ref a13, V.ref a14]))) := Same.new (Same.refl _) hc2
  have w2 : (L2.upd I2 c2 (.lst ([V.ref a0, V.ref a1, V.ref a2, V.ref a3, V.ref a4, V.ref a5, V.ref a6, V.ref a7, V.ref a8, V.ref a9] ++ [V.ref a10, V.ref a11, V.ref a12, V.ref a13, V.ref a14]))) c2 = some (.lst [V.ref a0, V.ref a1, V.ref a2, V.ref a3, V.ref a4, V.ref a5, V.ref a6, V.ref a7, V.ref a8, V.ref a9, V.ref a10, V.ref a11, V.ref a12, V.ref a13, V.ref a14]) := upd_same
  generalize L2.upd I2 c2 (.lst ([V.ref a0, V.ref a1, V.ref a2, V.ref a3, V.ref a4, V.ref a5, V.ref a6, V.ref a7, V.ref a8, V.ref a9] ++ [V.ref a10, V.ref a11, V.ref a12, V.ref a13, V.ref a14])) = J2 at *
  refine Exists.intro _ ⟨rfl, ?_⟩
  refine ⟨_, rfl, lk (by simp), fun a15 h15 => ⟨a15, v1, rfl, upd_same, fun d15 e15 n15 => ⟨rfl, ?_⟩⟩⟩
  obtain ⟨b15, f15⟩ := born1 (fs := [(Str.ofString "given", v1)]) h15 e15 n15
  generalize L2.upd (L2.upd (L2.upd J2 a15 (exo a15 (Ct 15) none)) d15 (exd d15 [(Str.ofString "given", v1)])) a15 (exo a15 (Ct 15) (some d15)) = G16 at *
  refine ⟨_, rfl, lk (by simp), fun a16 h16 => ⟨a16, v1, rfl, upd_same, fun d16 e16 n16 => ⟨rfl, ?_⟩⟩⟩
  obtain ⟨b16, f16⟩ := born1 (fs := [(Str.ofString "given", v1)]) h16 e16 n16
  generalize L2.upd (L2.upd (L2.upd G16 a16 (exo a16 (Ct 16) none)) d16 (exd d16 [(Str.ofString "given", v1)])) a16 (exo a16 (Ct 16) (some d16)) = G17 at *
  refine ⟨_, rfl, lk (by simp), fun a17 h17 => ⟨a17, v1, rfl, upd_same, fun d17 e17 n17 => ⟨rfl, ?_⟩⟩⟩
  obtain ⟨b17, f17⟩ := born1 (fs := [(Str.ofString "index", v1)]) h17 e17 n17
  generalize L2.upd (L2.upd (L2.upd G17 a17 (exo a17 (Ct 17) none)) d17 (exd d17 [(Str.ofString "index", v1)])) a17 (exo a17 (Ct 17) (some d17)) = G18 at *
  refine ⟨_, rfl, _, rfl, lk (by simp), fun a18 h18 => ⟨a18, v1, v2, rfl, upd_same, fun d18 e18 n18 => ⟨rfl, ?_⟩⟩⟩
  obtain ⟨b18, f18⟩ := born2 (fs := [(Str.ofString "count", v1)]) (gs := [(Str.ofString "where", v2), (Str.ofString "count", v1)]) h18 e18 n18
  generalize L2.upd (L2.upd (L2.upd (L2.upd G18 a18 (exo a18 (Ct 18) none)) d18 (exd d18 [(Str.ofString "count", v1)])) a18 (exo a18 (Ct 18) (some d18))) d18 (exd d18 [(Str.ofString "where", v2), (Str.ofString "count", v1)]) = G19 at *
  refine fun a19 h19 => ?_
  obtain ⟨b19, f19⟩ := born0 (C := Ct 19) h19
  generalize L2.upd G19 a19 (exo a19 (Ct 19) none) = G20 at *
  refine ⟨lz (by simp), fun l3 hl3 => ?_⟩
  dsimp only [tNil]
  have g3 : Same G20 (L2.upd G20 l3 (.lst [V.ref a15, V.ref a16, V.ref a17, V.ref a18, V.ref a19])) := Same.new (Same.refl _) hl3
  have k3 : (L2.upd G20 l3 (.lst [V.ref a15, V.ref a16, V.ref a17, V.ref a18, V.ref a19])) l3 = some (.lst [V.ref a15, V.ref a16, V.ref a17, V.ref a18, V.ref a19]) := upd_same
  generalize L2.upd G20 l3 (.lst [V.ref a15, V.ref a16, V.ref a17, V.ref a18, V.ref a19]) = I3 at *
  have p3 := ((((((b15).trans b16).trans b17).trans b18).trans b19).trans g3) _ _ w2
  refine ⟨_, _, _, _, rfl, rfl, p3, k3, lz (by simp), fun c3 hc3 => ?_⟩
  have u3 : Same I3 (L2.upd I3 c3 (.lst ([V.ref a0, V.ref a1, V.ref a2, V.ref a3, V.ref a4, V.ref a5, V.ref a6, V.ref a7, V.ref a8, V.ref a9, V.ref a10, V.ref a11, V.ref a12, V.ref a13, V.ref a14] ++ [V.ref a15, V.ref a16, V.ref a17, V.ref a18, V.ref a19]))) := Same.new (Same.refl _) hc3
  have w3 : (L2.upd I3 c3 (.lst ([V.ref a0, V.ref a1, V.ref a2, V.ref a3, V.ref a4, V.ref a5, V.ref a6, V.ref a7, V.ref a8, V.ref a9, V.ref a10, V.ref a11, V.ref a12, V.ref a13, V.ref a14] ++ [V.ref a15, V.ref a16, V.ref a17, V.ref a18, V.ref a19]))) c3 = some (.lst [V.ref a0, V.ref a1, V.ref a2, V.ref a3, V.ref a4, V.ref a5, V.ref a6, V.ref a7, V.ref a8, V.ref a9, V.ref a10, V.ref a11, V.ref a12, V.ref a13, V.ref a14, V.ref a15, V.ref a16, V.ref a17, V.ref a18, V.ref a19]) := upd_same
  generalize L2.upd I3 c3 (.lst ([V.ref a0, V.ref a1, V.ref a2, V.ref a3, V.ref a4, V.ref a5, V.ref a6, V.ref a7, V.ref a8, V.ref a9, V.ref a10, V.ref a11, V.ref a12, V.ref a13, V.ref a14] ++ [V.ref a15, V.ref a16, V.ref a17, V.ref a18, V.ref a19])) = J3 at *
  refine Exists.intro _ ⟨rfl, ?_⟩
  refine ⟨_, rfl, _, rfl, lk (by simp), fun a20 h20 => ⟨a20, v1, v2, rfl, upd_same, fun d20 e20 n20 => ⟨rfl, ?_⟩⟩⟩
  obtain ⟨b20, f20⟩ := born2 (fs := [(Str.ofString "index", v1)]) (gs := [(Str.ofString "shown", v2), (Str.ofString "index", v1)]) h20 e20 n20
  generalize L2.upd (L2.upd (L2.upd (L2.upd J3 a20 (exo a20 (Ct 20) none)) d20 (exd d20 [(Str.ofString "index", v1)])) a20 (exo a20 (Ct 20) (some d20))) d20 (exd d20 [(Str.ofString "shown", v2), (Str.ofString "index", v1)]) = G21 at *
  refine ⟨lz (by simp), fun l4 hl4 => ?_⟩
  dsimp only [tNil]
  have g4 : Same G21 (L2.upd G21 l4 (.lst [V.ref a20])) := Same.new (Same.refl _) hl4
  have k4 : (L2.upd G21 l4 (.lst [V.ref a20])) l4 = some (.lst [V.ref a20]) := upd_same
  generalize L2.upd G21 l4 (.lst [V.ref a20]) = I4 at *
  have p4 := ((b20).trans g4) _ _ w3
  refine ⟨_, _, _, _, rfl, rfl, p4, k4, lz (by simp), fun c4 hc4 => ?_⟩
  have u4 : Same I4 (L2.upd I4 c4 (.lst ([V.ref a0, V.ref a1, V.ref a2, V.ref a3, V.ref a4, V.ref a5, V.ref a6, V.ref a7, V.ref a8, V.ref a9, V.ref a10, V.ref a11, V.ref a12, V.ref a13, V.ref a14, V.ref a15, V.ref a16, V.ref a17, V.ref a18, V.ref a19] ++ [V.ref a20]))) := Same.new (Same.refl _) hc4
  have w4 : (L2.upd I4 c4 (.lst ([V.ref a0, V.ref a1, V.ref a2, V.ref a3, V.ref a4, V.ref a5, V.ref a6, V.ref a7, V.ref a8, V.ref a9, V.ref a10, V.ref a11, V.ref a12, V.ref a13, V.ref a14, V.ref a15, V.ref a16, V.ref a17, V.ref a18, V.ref a19] ++ [V.ref a20]))) c4 = some (.lst [V.ref a0, V.ref a1, V.ref a2, V.ref a3, V.ref a4, V.ref a5, V.ref a6, V.ref a7, V.ref a8, V.ref a9, V.ref a10, V.ref a11, V.ref a12, V.ref a13, V.ref a14, V.ref a15, V.ref a16, V.ref a17, V.ref a18, V.ref a19, V.ref a20]) := upd_same
  generalize L2.upd I4 c4 (.lst ([V.ref a0, V.ref a1, V.ref a2, V.ref a3, V.ref a4, V.ref a5, V.ref a6, V.ref a7, V.ref a8, V.ref a9, V.ref a10, V.ref a11, V.ref a12, V.ref a13, V.ref a14, V.ref a15, V.ref a16, V.ref a17, V.ref a18, V.ref a19] ++ [V.ref a20])) = J4 at *
  have z30 : Same J4 J4 := Same.refl _
  have z29 := u4.trans z30
  have z28 := g4.trans z29
  have z27 := b20.trans z28
  have z26 := u3.trans z27
  have z25 := g3.trans z26
  have z24 := b19.trans z25
  have z23 := b18.trans z24
  have z22 := b17.trans z23
  have z21 := b16.trans z22
  have z20 := b15.trans z21
  have z19 := u2.trans z20
  have z18 := g2.trans z19
  have z17 := b14.trans z18
  have z16 := b13.trans z17
  have z15 := b12.trans z16
  have z14 := b11.trans z15
  have z13 := b10.trans z14
  have z12 := u1.trans z13
  have z11 := g1.trans z12
  have z10 := b9.trans z11
  have z9 := b8.trans z10
  have z8 := b7.trans z9
  have z7 := b6.trans z8
  have z6 := b5.trans z7
  have z5 := g0.trans z6
  have z4 := b4.trans z5
  have z3 := b3.trans z4
  have z2 := b2.trans z3
  have z1 := b1.trans z2
  have z0 := b0.trans z1
  refine q c4 [a0, a1, a2, a3, a4, a5, a6, a7, a8, a9, a10, a11, a12, a13, a14, a15, a16, a17, a18, a19, a20] _ rfl ?_ w4 z0
  intro i a hi
  match i, hi with
  | 0, hi => cases hi; exact f0.mono z1
  | 1, hi => cases hi; exact f1.mono z2
  | 2, hi => cases hi; exact f2.mono z3
  | 3, hi => cases hi; exact f3.mono z4
  | 4, hi => cases hi; exact f4.mono z5
  | 5, hi => cases hi; exact f5.mono z7
  | 6, hi => cases hi; exact f6.mono z8
  | 7, hi => cases hi; exact f7.mono z9
  | 8, hi => cases hi; exact f8.mono z10
  | 9, hi => cases hi; exact f9.mono z11
  | 10, hi => cases hi; exact f10.mono z14
  | 11, hi => cases hi; exact f11.mono z15
  | 12, hi => cases hi; exact f12.mono z16
  | 13, hi => cases hi; exact f13.mono z17
  | 14, hi => cases hi; exact f14.mono z18
  | 15, hi => cases hi; exact f15.mono z21
  | 16, hi => cases hi; exact f16.mono z22
  | 17, hi => cases hi; exact f17.mono z23
  | 18, hi => cases hi; exact f18.mono z24
  | 19, hi => cases hi; exact f19.mono z25
  | 20, hi => cases hi; exact f20.mono z28
  | n + 21, hi => cases hi
theorem ok_byname {f : Addr} {fd : FuncData} (F : Fun K "_law_by_name" "_law_by_name" s__law_by_name f fd) (T : TxE K mg Ct) (M : Mks P w K mg base Ct) : FG P w K mg base CX0 3 f fd ["one", "two"] (spAll Ct) := by
  refine fun_okG F sc__law_by_name (fun vs H Q E h => ?_) (fun cdv A outer s H vs Q E gd hr h => ?_)
  · obtain ⟨_, _, rfl, _⟩ := h
    rfl
  have nd := sc__law_by_name.nd
  obtain ⟨v1, v2, rfl, q⟩ := h
  -- one 0, two 1, some 2
  refine ⟨_, (pss_cons (ps_set (i := 2) nd rfl (Or.inl rfl) (pe_lst (pa_cons (pe_xmkK (T.xc 0 (by decide)) M.kk_InvalidText gd (hr.mono (by decide)) (by rfl) (pk_cons (pv 0) pk_nil)) (pa_cons (pe_xmkK (T.xc 1 (by decide)) M.kk_InvalidNumber gd (hr.mono (by decide)) (by rfl) (pk_cons (pv 0) pk_nil)) (pa_cons (pe_xmkK (T.xc 2 (by decide)) M.kk_InvalidArray gd (hr.mono (by decide)) (by rfl) (pk_cons (pv 0) pk_nil)) (pa_cons (pe_xmkK (T.xc 3 (by decide)) M.kk_InvalidCost gd (hr.mono (by decide)) (by rfl) (pk_cons (pv 0) pk_nil)) pa_nil))))))
      (pss_cons (ps_set (i := 2) nd rfl (Or.inl rfl) (pe_op op_cat (pv 2) (pe_lst (pa_cons (pe_xmkK (T.xc 4 (by decide)) M.kk_InvalidName gd (hr.mono (by decide)) (by rfl) (pk_cons (pv 0) pk_nil)) (pa_cons (pe_xmkK (T.xc 5 (by decide)) M.kk_InvalidWish gd (hr.mono (by decide)) (by rfl) (pk_cons (pv 0) pk_nil)) (pa_cons (pe_xmkK (T.xc 6 (by decide)) M.kk_NotALoop gd (hr.mono (by decide)) (by rfl) (pk_cons (pv 0) pk_nil)) (pa_cons (pe_xmkK (T.xc 7 (by decide)) M.kk_NotAProgram gd (hr.mono (by decide)) (by rfl) (pk_cons (pv 0) pk_nil)) pa_nil)))))))
      (pss_cons (ps_set (i := 2) nd rfl (Or.inl rfl) (pe_op op_cat (pv 2) (pe_lst (pa_cons (pe_xmkK (T.xc 8 (by decide)) M.kk_NotAWorld gd (hr.mono (by decide)) (by rfl) (pk_cons (pv 0) pk_nil)) (pa_cons (pe_xmkK (T.xc 9 (by decide)) M.kk_NotACounts gd (hr.mono (by decide)) (by rfl) (pk_cons (pv 0) pk_nil)) (pa_cons (pe_xmkK (T.xc 10 (by decide)) M.kk_NotAForm gd (hr.mono (by decide)) (by rfl) (pk_cons (pv 0) pk_nil)) (pa_cons (pe_xmkK (T.xc 11 (by decide)) M.kk_NotCosts gd (hr.mono (by decide)) (by rfl) (pk_cons (pv 0) pk_nil)) pa_nil)))))))
      (pss_cons (ps_set (i := 2) nd rfl (Or.inl rfl) (pe_op op_cat (pv 2) (pe_lst (pa_cons (pe_xmkK (T.xc 12 (by decide)) M.kk_UnknownInput gd (hr.mono (by decide)) (by rfl) (pk_cons (pv 0) pk_nil)) (pa_cons (pe_xmkK (T.xc 13 (by decide)) M.kk_OtherWords gd (hr.mono (by decide)) (by rfl) (pk_cons (pv 0) pk_nil)) (pa_cons (pe_xmkK (T.xc 14 (by decide)) M.kk_OtherOuts gd (hr.mono (by decide)) (by rfl) (pk_cons (pv 0) pk_nil)) (pa_cons (pe_xmkK (T.xc 15 (by decide)) M.kk_TooFar gd (hr.mono (by decide)) (by rfl) (pk_cons (pv 0) pk_nil)) pa_nil)))))))
      (pss_cons (ps_set (i := 2) nd rfl (Or.inl rfl) (pe_op op_cat (pv 2) (pe_lst (pa_cons (pe_xmkK (T.xc 16 (by decide)) M.kk_UnknownName gd (hr.mono (by decide)) (by rfl) (pk_cons (pv 0) pk_nil)) (pa_cons (pe_xmkK (T.xc 17 (by decide)) M.kk_InUse gd (hr.mono (by decide)) (by rfl) (pk_cons (pv 0) pk_nil)) (pa_cons (pe_xmkK (T.xc 18 (by decide)) M.kk_NotRight gd (hr.mono (by decide)) (by rfl) (pk_cons (pv 1) (pk_cons (pv 0) pk_nil))) (pa_cons (pe_xmk0 rootL.base T.q_NothingToUndo T.g_NothingToUndo T.k_NothingToUndo (by rfl)) pa_nil)))))))
      (pss_one (ps_ret (pe_op op_cat (pv 2) (pe_lst (pa_cons (pe_xmkK (T.xc 20 (by decide)) M.kk_NotKept gd (hr.mono (by decide)) (by rfl) (pk_cons (pv 1) (pk_cons (pv 0) pk_nil))) pa_nil)))))))))), ?_⟩
  refine ⟨_, rfl, rfl, fun a0 h0 => ⟨a0, v1, rfl, upd_same, fun d0 e0 n0 => ⟨rfl, ?_⟩⟩⟩
  obtain ⟨b0, f0⟩ := born1 (fs := [(Str.ofString "given", v1)]) h0 e0 n0
  generalize L2.upd (L2.upd (L2.upd H a0 (exo a0 (Ct 0) none)) d0 (exd d0 [(Str.ofString "given", v1)])) a0 (exo a0 (Ct 0) (some d0)) = G1 at *
  refine ⟨_, rfl, rfl, fun a1 h1 => ⟨a1, v1, rfl, upd_same, fun d1 e1 n1 => ⟨rfl, ?_⟩⟩⟩
  obtain ⟨b1, f1⟩ := born1 (fs := [(Str.ofString "given", v1)]) h1 e1 n1
  generalize L2.upd (L2.upd (L2.upd G1 a1 (exo a1 (Ct 1) none)) d1 (exd d1 [(Str.ofString "given", v1)])) a1 (exo a1 (Ct 1) (some d1)) = G2 at *
  refine ⟨_, rfl, rfl, fun a2 h2 => ⟨a2, v1, rfl, upd_same, fun d2 e2 n2 => ⟨rfl, ?_⟩⟩⟩
  obtain ⟨b2, f2⟩ := born1 (fs := [(Str.ofString "given", v1)]) h2 e2 n2
  generalize L2.upd (L2.upd (L2.upd G2 a2 (exo a2 (Ct 2) none)) d2 (exd d2 [(Str.ofString "given", v1)])) a2 (exo a2 (Ct 2) (some d2)) = G3 at *
  refine ⟨_, rfl, rfl, fun a3 h3 => ⟨a3, v1, rfl, upd_same, fun d3 e3 n3 => ⟨rfl, ?_⟩⟩⟩
  obtain ⟨b3, f3⟩ := born1 (fs := [(Str.ofString "given", v1)]) h3 e3 n3
  generalize L2.upd (L2.upd (L2.upd G3 a3 (exo a3 (Ct 3) none)) d3 (exd d3 [(Str.ofString "given", v1)])) a3 (exo a3 (Ct 3) (some d3)) = G4 at *
  refine ⟨lz (by simp), fun l0 hl0 => ?_⟩
  dsimp only [tNil]
  have g0 : Same G4 (L2.upd G4 l0 (.lst [V.ref a0, V.ref a1, V.ref a2, V.ref a3])) := Same.new (Same.refl _) hl0
  have k0 : (L2.upd G4 l0 (.lst [V.ref a0, V.ref a1, V.ref a2, V.ref a3])) l0 = some (.lst [V.ref a0, V.ref a1, V.ref a2, V.ref a3]) := upd_same
  generalize L2.upd G4 l0 (.lst [V.ref a0, V.ref a1, V.ref a2, V.ref a3]) = I0 at *
  refine Exists.intro _ ⟨rfl, ?_⟩
  refine ⟨_, rfl, rfl, fun a4 h4 => ⟨a4, v1, rfl, upd_same, fun d4 e4 n4 => ⟨rfl, ?_⟩⟩⟩
  obtain ⟨b4, f4⟩ := born1 (fs := [(Str.ofString "given", v1)]) h4 e4 n4
  generalize L2.upd (L2.upd (L2.upd I0 a4 (exo a4 (Ct 4) none)) d4 (exd d4 [(Str.ofString "given", v1)])) a4 (exo a4 (Ct 4) (some d4)) = G5 at *
  refine ⟨_, rfl, rfl, fun a5 h5 => ⟨a5, v1, rfl, upd_same, fun d5 e5 n5 => ⟨rfl, ?_⟩⟩⟩
  obtain ⟨b5, f5⟩ := born1 (fs := [(Str.ofString "given", v1)]) h5 e5 n5
  generalize L2.upd (L2.upd (L2.upd G5 a5 (exo a5 (Ct 5) none)) d5 (exd d5 [(Str.ofString "given", v1)])) a5 (exo a5 (Ct 5) (some d5)) = G6 at *
  refine ⟨_, rfl, rfl, fun a6 h6 => ⟨a6, v1, rfl, upd_same, fun d6 e6 n6 => ⟨rfl, ?_⟩⟩⟩
  obtain ⟨b6, f6⟩ := born1 (fs := [(Str.ofString "given", v1)]) h6 e6 n6
  generalize L2.upd (L2.upd (L2.upd G6 a6 (exo a6 (Ct 6) none)) d6 (exd d6 [(Str.ofString "given", v1)])) a6 (exo a6 (Ct 6) (some d6)) = G7 at *
  refine ⟨_, rfl, rfl, fun a7 h7 => ⟨a7, v1, rfl, upd_same, fun d7 e7 n7 => ⟨rfl, ?_⟩⟩⟩
  obtain ⟨b7, f7⟩ := born1 (fs := [(Str.ofString "given", v1)]) h7 e7 n7
  generalize L2.upd (L2.upd (L2.upd G7 a7 (exo a7 (Ct 7) none)) d7 (exd d7 [(Str.ofString "given", v1)])) a7 (exo a7 (Ct 7) (some d7)) = G8 at *
  refine ⟨lz (by simp), fun l1 hl1 => ?_⟩
  dsimp only [tNil]
  have g1 : Same G8 (L2.upd G8 l1 (.lst [V.ref a4, V.ref a5, V.ref a6, V.ref a7])) := Same.new (Same.refl _) hl1
  have k1 : (L2.upd G8 l1 (.lst [V.ref a4, V.ref a5, V.ref a6, V.ref a7])) l1 = some (.lst [V.ref a4, V.ref a5, V.ref a6, V.ref a7]) := upd_same
  generalize L2.upd G8 l1 (.lst [V.ref a4, V.ref a5, V.ref a6, V.ref a7]) = I1 at *
  have p1 := (((((b4).trans b5).trans b6).trans b7).trans g1) _ _ k0
  refine ⟨_, _, _, _, rfl, rfl, p1, k1, lz (by simp), fun c1 hc1 => ?_⟩
  have u1 : Same I1 (L2.upd I1 c1 (.lst ([V.ref a0, V.ref a1, V.ref a2, V.ref a3] ++ [V.ref a4, V.ref a5, V.ref a6, V.ref a7]))) := Same.new (Same.refl _) hc1
  have w1 : (L2.upd I1 c1 (.lst ([V.ref a0, V.ref a1, V.ref a2, V.ref a3] ++ [V.ref a4, V.ref a5, V.ref a6, V.ref a7]))) c1 = some (.lst [V.ref a0, V.ref a1, V.ref a2, V.ref a3, V.ref a4, V.ref a5, V.ref a6, V.ref a7]) := upd_same
  generalize L2.upd I1 c1 (.lst ([V.ref a0, V.ref a1, V.ref a2, V.ref a3] ++ [V.ref a4, V.ref a5, V.ref a6, V.ref a7])) = J1 at *
  refine Exists.intro _ ⟨rfl, ?_⟩
  refine ⟨_, rfl, rfl, fun a8 h8 => ⟨a8, v1, rfl, upd_same, fun d8 e8 n8 => ⟨rfl, ?_⟩⟩⟩
  obtain ⟨b8, f8⟩ := born1 (fs := [(Str.ofString "given", v1)]) h8 e8 n8
  generalize L2.upd (L2.upd (L2.upd J1 a8 (exo a8 (Ct 8) none)) d8 (exd d8 [(Str.ofString "given", v1)])) a8 (exo a8 (Ct 8) (some d8)) = G9 at *
  refine ⟨_, rfl, rfl, fun a9 h9 => ⟨a9, v1, rfl, upd_same, fun d9 e9 n9 => ⟨rfl, ?_⟩⟩⟩
  obtain ⟨b9, f9⟩ := born1 (fs := [(Str.ofString "given", v1)]) h9 e9 n9
  generalize L2.upd (L2.upd (L2.upd G9 a9 (exo a9 (Ct 9) none)) d9 (exd d9 [(Str.ofString "given", v1)])) a9 (exo a9 (Ct 9) (some d9)) = G10 at *
  refine ⟨_, rfl, rfl, fun a10 h10 => ⟨a10, v1, rfl, upd_same, fun d10 e10 n10 => ⟨rfl, ?_⟩⟩⟩
  obtain ⟨b10, f10⟩ := born1 (fs := [(Str.ofString "given", v1)]) h10 e10 n10
  generalize L2.upd (L2.upd (L2.upd G10 a10 (exo a10 (Ct 10) none)) d10 (exd d10 [(Str.ofString "given", v1)])) a10 (exo a10 (Ct 10) (some d10)) = G11 at *
  refine ⟨_, rfl, rfl, fun a11 h11 => ⟨a11, v1, rfl, upd_same, fun d11 e11 n11 => ⟨rfl, ?_⟩⟩⟩
  obtain ⟨b11, f11⟩ := born1 (fs := [(Str.ofString "given", v1)]) h11 e11 n11
  generalize L2.upd (L2.upd (L2.upd G11 a11 (exo a11 (Ct 11) none)) d11 (exd d11 [(Str.ofString "given", v1)])) a11 (exo a11 (Ct 11) (some d11)) = G12 at *
  refine ⟨lz (by simp), fun l2 hl2 => ?_⟩
  dsimp only [tNil]
  have g2 : Same G12 (L2.upd G12 l2 (.lst [V.ref a8, V.ref a9, V.ref a10, V.ref a11])) := Same.new (Same.refl _) hl2
  have k2 : (L2.upd G12 l2 (.lst [V.ref a8, V.ref a9, V.ref a10, V.ref a11])) l2 = some (.lst [V.ref a8, V.ref a9, V.ref a10, V.ref a11]) := upd_same
  generalize L2.upd G12 l2 (.lst [V.ref a8, V.ref a9, V.ref a10, V.ref a11]) = I2 at *
  have p2 := (((((b8).trans b9).trans b10).trans b11).trans g2) _ _ w1
  refine ⟨_, _, _, _, rfl, rfl, p2, k2, lz (by simp), fun c2 hc2 => ?_⟩
  have u2 : Same I2 (L2.upd I2 c2 (.lst ([V.ref a0, V.ref a1, V.ref a2, V.ref a3, V.ref a4, V.ref a5, V.ref a6, V.ref a7] ++ [V.ref a8, V.ref a9, V.ref a10, V.ref a11]))) := Same.new (Same.refl _) hc2
  have w2 : (L2.upd I2 c2 (.lst ([V.ref a0, V.ref a1, V.ref a2, V.ref a3, V.ref a4, V.ref a5, V.ref a6, V.ref a7] ++ [V.ref a8, V.ref a9, V.ref a10, V.ref a11]))) c2 = some (.lst [V.ref a0, V.ref a1, V.ref a2, V.ref a3, V.ref a4, V.ref a5, V.ref a6, V.ref a7, V.ref a8, V.ref a9, V.ref a10, V.ref a11]) := upd_same
  generalize L2.upd I2 c2 (.lst ([V.ref a0, V.ref a1, V.ref a2, V.ref a3, V.ref a4, V.ref a5, V.ref a6, V.ref a7] ++ [V.ref a8, V.ref a9, V.ref a10, V.ref a11])) = J2 at *
  refine Exists.intro _ ⟨rfl, ?_⟩
  refine ⟨_, rfl, rfl, fun a12 h12 => ⟨a12, v1, rfl, upd_same, fun d12 e12 n12 => ⟨rfl, ?_⟩⟩⟩
  obtain ⟨b12, f12⟩ := born1 (fs := [(Str.ofString "given", v1)]) h12 e12 n12
  generalize L2.upd (L2.upd (L2.upd J2 a12 (exo a12 (Ct 12) none)) d12 (exd d12 [(Str.ofString "given", v1)])) a12 (exo a12 (Ct 12) (some d12)) = G13 at *
  refine ⟨_, rfl, rfl, fun a13 h13 => ⟨a13, v1, rfl, upd_same, fun d13 e13 n13 => ⟨rfl, ?_⟩⟩⟩
  obtain ⟨b13, f13⟩ := born1 (fs := [(Str.ofString "given", v1)]) h13 e13 n13
  generalize L2.upd (L2.upd (L2.upd G13 a13 (exo a13 (Ct 13) none)) d13 (exd d13 [(Str.ofString "given", v1)])) a13 (exo a13 (Ct 13) (some d13)) = G14 at *
  refine ⟨_, rfl, rfl, fun a14 h14 => ⟨a14, v1, rfl, upd_same, fun d14 e14 n14 => ⟨rfl, ?_⟩⟩⟩
  obtain ⟨b14, f14⟩ := born1 (fs := [(Str.ofString "given", v1)]) h14 e14 n14
  generalize L2.upd (L2.upd (L2.upd G14 a14 (exo a14 (Ct 14) none)) d14 (exd d14 [(Str.ofString "given", v1)])) a14 (exo a14 (Ct 14) (some d14)) = G15 at *
  refine ⟨_, rfl, rfl, fun a15 h15 => ⟨a15, v1, rfl, upd_same, fun d15 e15 n15 => ⟨rfl, ?_⟩⟩⟩
  obtain ⟨b15, f15⟩ := born1 (fs := [(Str.ofString "given", v1)]) h15 e15 n15
  generalize L2.upd (L2.upd (L2.upd G15 a15 (exo a15 (Ct 15) none)) d15 (exd d15 [(Str.ofString "given", v1)])) a15 (exo a15 (Ct 15) (some d15)) = G16 at *
  refine ⟨lz (by simp), fun l3 hl3 => ?_⟩
  dsimp only [tNil]
  have g3 : Same G16 (L2.upd G16 l3 (.lst [V.ref a12, V.ref a13, V.ref a14, V.ref a15])) := Same.new (Same.refl _) hl3
  have k3 : (L2.upd G16 l3 (.lst [V.ref a12, V.ref a13, V.ref a14, V.ref a15])) l3 = some (.lst [V.ref a12, V.ref a13, V.ref a14, V.ref a15]) := upd_same
  generalize L2.upd G16 l3 (.lst [V.ref a12, V.ref a13, V.ref a14, V.ref a15]) = I3 at *
  have p3 := (((((b12).trans b13).trans b14).trans b15).trans g3) _ _ w2
  refine ⟨_, _, _, _, rfl, rfl, p3, k3, lz (by simp), fun c3 hc3 => ?_⟩
  have u3 : Same I3 (L2.upd I3 c3 (.lst ([V.ref a0, V.ref a1, V.ref a2, V.ref a3, V.ref a4, V.ref a5, V.ref a6, V.ref a7, V.ref a8, V.ref a9, V.ref a10, V.ref a11] ++ [V.ref a12, V.ref a13, V.ref a14, V.ref a15]))) := Same.new (Same.refl _) hc3
  have w3 : (L2.upd I3 c3 (.lst ([V.ref a0, V.ref a1, V.ref a2, V.ref a3, V.ref a4, V.ref a5, V.ref a6, V.ref a7, V.ref a8, V.ref a9, V.ref a10, V.ref a11] ++ [V.ref a12, V.ref a13, V.ref a14, V.ref a15]))) c3 = some (.lst [V.ref a0, V.ref a1, V.ref a2, V.ref a3, V.ref a4, V.ref a5, V.ref a6, V.ref a7, V.ref a8, V.ref a9, V.ref a10, V.ref a11, V.ref a12, V.ref a13, V.ref a14, V.ref a15]) := upd_same
  generalize L2.upd I3 c3 (.lst ([V.ref a0, V.ref a1, V.ref a2, V.ref a3, V.ref a4, V.ref a5, V.ref a6, V.ref a7, V.ref a8, V.ref a9, V.ref a10, V.ref a11] ++ [V.ref a12, V.ref a13, V.ref a14, V.ref a15])) = J3 at *
  refine Exists.intro _ ⟨rfl, ?_⟩
  refine ⟨_, rfl, rfl, fun a16 h16 => ⟨a16, v1, rfl, upd_same, fun d16 e16 n16 => ⟨rfl, ?_⟩⟩⟩
  obtain ⟨b16, f16⟩ := born1 (fs := [(Str.ofString "given", v1)]) h16 e16 n16
  generalize L2.upd (L2.upd (L2.upd J3 a16 (exo a16 (Ct 16) none)) d16 (exd d16 [(Str.ofString "given", v1)])) a16 (exo a16 (Ct 16) (some d16)) = G17 at *
  refine ⟨_, rfl, rfl, fun a17 h17 => ⟨a17, v1, rfl, upd_same, fun d17 e17 n17 => ⟨rfl, ?_⟩⟩⟩
  obtain ⟨b17, f17⟩ := born1 (fs := [(Str.ofString "index", v1)]) h17 e17 n17
  generalize L2.upd (L2.upd (L2.upd G17 a17 (exo a17 (Ct 17) none)) d17 (exd d17 [(Str.ofString "index", v1)])) a17 (exo a17 (Ct 17) (some d17)) = G18 at *
  refine ⟨_, rfl, _, rfl, rfl, fun a18 h18 => ⟨a18, v1, v2, rfl, upd_same, fun d18 e18 n18 => ⟨rfl, ?_⟩⟩⟩
  obtain ⟨b18, f18⟩ := born2 (fs := [(Str.ofString "count", v1)]) (gs := [(Str.ofString "where", v2), (Str.ofString "count", v1)]) h18 e18 n18
  generalize L2.upd (L2.upd (L2.upd (L2.upd G18 a18 (exo a18 (Ct 18) none)) d18 (exd d18 [(Str.ofString "count", v1)])) a18 (exo a18 (Ct 18) (some d18))) d18 (exd d18 [(Str.ofString "where", v2), (Str.ofString "count", v1)]) = G19 at *
  refine fun a19 h19 => ?_
  obtain ⟨b19, f19⟩ := born0 (C := Ct 19) h19
  generalize L2.upd G19 a19 (exo a19 (Ct 19) none) = G20 at *
  refine ⟨lz (by simp), fun l4 hl4 => ?_⟩
  dsimp only [tNil]
  have g4 : Same G20 (L2.upd G20 l4 (.lst [V.ref a16, V.ref a17, V.ref a18, V.ref a19])) := Same.new (Same.refl _) hl4
  have k4 : (L2.upd G20 l4 (.lst [V.ref a16, V.ref a17, V.ref a18, V.ref a19])) l4 = some (.lst [V.ref a16, V.ref a17, V.ref a18, V.ref a19]) := upd_same
  generalize L2.upd G20 l4 (.lst [V.ref a16, V.ref a17, V.ref a18, V.ref a19]) = I4 at *
  have p4 := (((((b16).trans b17).trans b18).trans b19).trans g4) _ _ w3
  refine ⟨_, _, _, _, rfl, rfl, p4, k4, lz (by simp), fun c4 hc4 => ?_⟩
  have u4 : Same I4 (L2.upd I4 c4 (.lst ([V.ref a0, V.ref a1, V.ref a2, V.ref a3, V.ref a4, V.ref a5, V.ref a6, V.ref a7, V.ref a8, V.ref a9, V.ref a10, V.ref a11, V.ref a12, V.ref a13, V.ref a14, V.ref a15] ++ [V.ref a16, V.ref a17, V.ref a18, V.ref a19]))) := Same.new (Same.refl _) hc4
  have w4 : (L2.upd I4 c4 (.lst ([V.ref a0, V.ref a1, V.ref a2, V.ref a3, V.ref a4, V.ref a5, V.ref a6, V.ref a7, V.ref a8, V.ref a9, V.ref a10, V.ref a11, V.ref a12, V.ref a13, V.ref a14, V.ref a15] ++ [V.ref a16, V.ref a17, V.ref a18, V.ref a19]))) c4 = some (.lst [V.ref a0, V.ref a1, V.ref a2, V.ref a3, V.ref a4, V.ref a5, V.ref a6, V.ref a7, V.ref a8, V.ref a9, V.ref a10, V.ref a11, V.ref a12, V.ref a13, V.ref a14, V.ref a15, V.ref a16, V.ref a17, V.ref a18, V.ref a19]) := upd_same
  generalize L2.upd I4 c4 (.lst ([V.ref a0, V.ref a1, V.ref a2, V.ref a3, V.ref a4, V.ref a5, V.ref a6, V.ref a7, V.ref a8, V.ref a9, V.ref a10, V.ref a11, V.ref a12, V.ref a13, V.ref a14, V.ref a15] ++ [V.ref a16, V.ref a17, V.ref a18, V.ref a19])) = J4 at *
  refine Exists.intro _ ⟨rfl, ?_⟩
  refine ⟨_, rfl, _, rfl, rfl, fun a20 h20 => ⟨a20, v1, v2, rfl, upd_same, fun d20 e20 n20 => ⟨rfl, ?_⟩⟩⟩
  obtain ⟨b20, f20⟩ := born2 (fs := [(Str.ofString "index", v1)]) (gs := [(Str.ofString "shown", v2), (Str.ofString "index", v1)]) h20 e20 n20
  generalize L2.upd (L2.upd (L2.upd (L2.upd J4 a20 (exo a20 (Ct 20) none)) d20 (exd d20 [(Str.ofString "index", v1)])) a20 (exo a20 (Ct 20) (some d20))) d20 (exd d20 [(Str.ofString "shown", v2), (Str.ofString "index", v1)]) = G21 at *
  refine ⟨lz (by simp), fun l5 hl5 => ?_⟩
  dsimp only [tNil]
  have g5 : Same G21 (L2.upd G21 l5 (.lst [V.ref a20])) := Same.new (Same.refl _) hl5
  have k5 : (L2.upd G21 l5 (.lst [V.ref a20])) l5 = some (.lst [V.ref a20]) := upd_same
  generalize L2.upd G21 l5 (.lst [V.ref a20]) = I5 at *
  have p5 := ((b20).trans g5) _ _ w4
  refine ⟨_, _, _, _, rfl, rfl, p5, k5, lz (by simp), fun c5 hc5 => ?_⟩
  have u5 : Same I5 (L2.upd I5 c5 (.lst ([V.ref a0, V.ref a1, V.ref a2, V.ref a3, V.ref a4, V.ref a5, V.ref a6, V.ref a7, V.ref a8, V.ref a9, V.ref a10, V.ref a11, V.ref a12, V.ref a13, V.ref a14, V.ref a15, V.ref a16, V.ref a17, V.ref a18, V.ref a19] ++ [V.ref a20]))) := Same.new (Same.refl _) hc5
  have w5 : (L2.upd I5 c5 (.lst ([V.ref a0, V.ref a1, V.ref a2, V.ref a3, V.ref a4, V.ref a5, V.ref a6, V.ref a7, V.ref a8, V.ref a9, V.ref a10, V.ref a11, V.ref a12, V.ref a13, V.ref a14, V.ref a15, V.ref a16, V.ref a17, V.ref a18, V.ref a19] ++ [V.ref a20]))) c5 = some (.lst [V.ref a0, V.ref a1, V.ref a2, V.ref a3, V.ref a4, V.ref a5, V.ref a6, V.ref a7, V.ref a8, V.ref a9, V.ref a10, V.ref a11, V.ref a12, V.ref a13, V.ref a14, V.ref a15, V.ref a16, V.ref a17, V.ref a18, V.ref a19, V.ref a20]) := upd_same
  generalize L2.upd I5 c5 (.lst ([V.ref a0, V.ref a1, V.ref a2, V.ref a3, V.ref a4, V.ref a5, V.ref a6, V.ref a7, V.ref a8, V.ref a9, V.ref a10, V.ref a11, V.ref a12, V.ref a13, V.ref a14, V.ref a15, V.ref a16, V.ref a17, V.ref a18, V.ref a19] ++ [V.ref a20])) = J5 at *
  have z32 : Same J5 J5 := Same.refl _
  have z31 := u5.trans z32
  have z30 := g5.trans z31
  have z29 := b20.trans z30
  have z28 := u4.trans z29
  have z27 := g4.trans z28
  have z26 := b19.trans z27
  have z25 := b18.trans z26
  have z24 := b17.trans z25
  have z23 := b16.trans z24
  have z22 := u3.trans z23
  have z21 := g3.trans z22
  have z20 := b15.trans z21
  have z19 := b14.trans z20
  have z18 := b13.trans z19
  have z17 := b12.trans z18
  have z16 := u2.trans z17
  have z15 := g2.trans z16
  have z14 := b11.trans z15
  have z13 := b10.trans z14
  have z12 := b9.trans z13
  have z11 := b8.trans z12
  have z10 := u1.trans z11
  have z9 := g1.trans z10
  have z8 := b7.trans z9
  have z7 := b6.trans z8
  have z6 := b5.trans z7
  have z5 := b4.trans z6
  have z4 := g0.trans z5
  have z3 := b3.trans z4
  have z2 := b2.trans z3
  have z1 := b1.trans z2
  have z0 := b0.trans z1
  refine q c5 [a0, a1, a2, a3, a4, a5, a6, a7, a8, a9, a10, a11, a12, a13, a14, a15, a16, a17, a18, a19, a20] _ rfl ?_ w5 z0
  intro i a hi
  match i, hi with
  | 0, hi => cases hi; exact f0.mono z1
  | 1, hi => cases hi; exact f1.mono z2
  | 2, hi => cases hi; exact f2.mono z3
  | 3, hi => cases hi; exact f3.mono z4
  | 4, hi => cases hi; exact f4.mono z6
  | 5, hi => cases hi; exact f5.mono z7
  | 6, hi => cases hi; exact f6.mono z8
  | 7, hi => cases hi; exact f7.mono z9
  | 8, hi => cases hi; exact f8.mono z12
  | 9, hi => cases hi; exact f9.mono z13
  | 10, hi => cases hi; exact f10.mono z14
  | 11, hi => cases hi; exact f11.mono z15
  | 12, hi => cases hi; exact f12.mono z18
  | 13, hi => cases hi; exact f13.mono z19
  | 14, hi => cases hi; exact f14.mono z20
  | 15, hi => cases hi; exact f15.mono z21
  | 16, hi => cases hi; exact f16.mono z24
  | 17, hi => cases hi; exact f17.mono z25
  | 18, hi => cases hi; exact f18.mono z26
  | 19, hi => cases hi; exact f19.mono z27
  | 20, hi => cases hi; exact f20.mono z30
  | n + 21, hi => cases hi
end
end Lk
set_option Elab.async false
set_option linter.all false
namespace Lk
open PySem PySem.Spec PyProof.Rows L2 G TL
/-! ### values -/
abbrev s__law_value : Stmt := top 37
theorem sc__law_value : FnScope ["purse", "way", "size", "small"] ["purse"] (defScope s__law_value) := ⟨rfl, rfl, rfl, by decide +kernel, rfl, by decide +kernel, by decide +kernel⟩
theorem big_log {i : Int} (h : i.natAbs ≤ 10 ^ 40) : i.natAbs.log2 < 1920 := by
  rcases Nat.eq_zero_or_pos i.natAbs with z | z
  · rw [z]
    decide
  · exact (Nat.log2_lt (Nat.ne_of_gt z)).mpr (Nat.lt_of_le_of_lt h (by decide))
theorem But.free {p a : Addr} {H H' : Hp} (b : But p H H') (n : a ≠ p) (h : H' a = none) : H a = none := by
  cases e : H a with
  | none => rfl
  | some o =>
    rw [b a o n e] at h
    cases h
theorem nep {H1 : Hp} {a p : Addr} (h : Pur H1 p) (hn : H1 a = none) : a ≠ p := fun e => by
  obtain ⟨_, _, _, e1, _⟩ := h
  rw [e, e1] at hn
  cases hn
theorem textFrom_le : ∀ (ts : List Str) (k : Nat) (acc : Str), (textFrom k acc ts).length ≤ acc.length + piled ts
  | [], k, acc => by show acc.length ≤ _; omega
  | t :: ts, k, acc => by
    have ih := textFrom_le ts (k + 1) (acc ++ (if k > 0 then ", " else "" : String) ++ t)
    have e : ((((if k > 0 then ", " else "" : String) : String) : Str)).length ≤ 2 := by split <;> decide
    rw [strLen_append, strLen_append] at ih
    rw [piled_cons]
    show (textFrom (k + 1) (acc ++ (if k > 0 then ", " else "" : String) ++ t) ts).length ≤ _
    omega
theorem listText_le (ts : List Str) : (listText ts).length ≤ 2 + piled ts := by
  unfold listText
  have h := textFrom_le ts 0 "["
  have e1 : ((("[" : String) : Str)).length = 1 := rfl
  have e2 : ((("]" : String) : Str)).length = 1 := rfl
  rw [strLen_append, e2]
  omega
theorem tupleText_le {ts : List Str} (n : ts ≠ []) : (tupleText ts).length ≤ 1 + piled ts := by
  unfold tupleText
  have h := join_length_add ts n
  have e1 : ((("(" : String) : Str)).length = 1 := rfl
  have e2 : ((((if ts.length == 1 then ",)" else ")" : String) : String) : Str)).length ≤ 2 := by split <;> decide
  rw [strLen_append, strLen_append, e1]
  omega
theorem dictText_le {ts : List Str} (n : ts ≠ []) : (dictText ts).length ≤ piled ts := by
  unfold dictText
  have h := join_length_add ts n
  have e1 : ((("{" : String) : Str)).length = 1 := rfl
  have e2 : ((("}" : String) : Str)).length = 1 := rfl
  rw [strLen_append, strLen_append, e1, e2]
  omega
theorem int_shown {z : Int} (h : z.natAbs.log2 < 1920) : (PyData.int z).shown.length ≤ 1921 := by
  have e : (PyData.int z).shown = ((toString z : String) : Str) := by simp only [PyData.shown]
  rw [e]
  exact int_text_len_1921 h
def EqOk (H : Hp) (v : V) : Prop := (scal v v = true ∧ ∀ a, v ≠ .ref a) ∨ ∃ a, v = .ref a ∧ ((∃ xs, H a = some (.lst xs)) ∨ (∃ xs, H a = some (.tup xs)) ∨ ∃ kvs, H a = some (.dK kvs))
def Vd (H : Hp) (v : V) : Prop := EqOk H v ∧ ∃ d, Dy H v d ∧ d.showable = true ∧ d.depth ≤ 20 ∧ d.shown.length ≤ 20000
theorem vd_int {H : Hp} {z : Int} (h : z.natAbs.log2 < 1920) : Vd H (.int z) := by
  refine ⟨.inl ⟨rfl, fun a e => by cases e⟩, .int z, .int z, by simpa [PyData.showable] using h, by simp [PyData.depth], ?_⟩
  have := int_text_len_1921 h
  have e : (PyData.int z).shown = ((toString z : String) : Str) := by simp only [PyData.shown]
  rw [e]
  omega
theorem wd_shown {z : Str} (w : Wd z) : (PyData.str z).shown.length ≤ 82 := by
  have e : (PyData.str z).shown = reprText z := by simp only [PyData.shown]
  rw [e]
  have := StrLaws.reprText_len z fun c hc => Nat.lt_of_le_of_lt (w.low c hc).2 (by decide)
  have := w.len
  omega
theorem vd_str {z : Str} (w : Wd z) (H : Hp) : Vd H (.str z) := by
  refine ⟨.inl ⟨rfl, fun a e => by cases e⟩, .str z, .str z, rfl, by simp [PyData.depth], ?_⟩
  have := wd_shown w
  omega
theorem vd_row {H : Hp} {t u : Addr} {z : Str} {g k : Int} (w : Wd z) (hg : g.natAbs.log2 < 1920) (hk : k.natAbs.log2 < 1920) (ht : H t = some (.tup [.str z, .int g, .ref u])) (hu : H u = some (.tup [.str (Str.ofString "out"), .int k])) : Vd H (.ref t) := by
  refine ⟨.inr ⟨t, rfl, .inr (.inl ⟨_, ht⟩)⟩, .tuple [.str z, .int g, .tuple [.str (Str.ofString "out"), .int k]], .tup ht (.cons (.str z) (.cons (.int g) (.cons (.tup hu (.cons (.str _) (.cons (.int k) .nil))) .nil))), ?_, ?_, ?_⟩
  · simp [PyData.showable, PyData.showableAll, hg, hk]
  · simp [PyData.depth, PyData.depthAll]
  · have e1 : (PyData.tuple [.str (Str.ofString "out"), .int k]).shown = tupleText [(PyData.str (Str.ofString "out")).shown, (PyData.int k).shown] := by simp only [PyData.shown, PyData.shownAll]
    have e2 : (PyData.tuple [.str z, .int g, .tuple [.str (Str.ofString "out"), .int k]]).shown = tupleText [(PyData.str z).shown, (PyData.int g).shown, (PyData.tuple [.str (Str.ofString "out"), .int k]).shown] := by simp only [PyData.shown, PyData.shownAll]
    have l1 := tupleText_le (ts := [(PyData.str (Str.ofString "out")).shown, (PyData.int k).shown]) (by simp)
    have l2 := tupleText_le (ts := [(PyData.str z).shown, (PyData.int g).shown, (PyData.tuple [.str (Str.ofString "out"), .int k]).shown]) (by simp)
    have o : (PyData.str (Str.ofString "out")).shown.length ≤ 20 := by decide +kernel
    have i1 := int_shown hg
    have i2 := int_shown hk
    have i3 := wd_shown w
    have np : piled ([] : List Str) = 0 := rfl
    rw [← e1, piled_cons, piled_cons, np] at l1
    rw [← e2, piled_cons, piled_cons, piled_cons, np] at l2
    omega
theorem vd_dict {H : Hp} {t u : Addr} {z : Str} {n : Int} (w : Wd z) (hn : n.natAbs.log2 < 1920) (nu : u ≠ sysModules) (ht : H t = some (.dK [(Sum.inr z, .ref u)])) (hu : H u = some (.lst [.int n])) : Vd H (.ref t) := by
  refine ⟨.inr ⟨t, rfl, .inr (.inr ⟨_, ht⟩)⟩, .dict [(.str z, .list [.int n])], .dct ht rfl (.cons (.lst nu hu (.cons (.int n) .nil)) .nil), ?_, ?_, ?_⟩
  · simp [PyData.showable, PyData.showableAll, PyData.showableKv, hn]
  · simp [PyData.depth, PyData.depthAll, PyData.depthKv]
  · have e1 : (PyData.list [.int n]).shown = listText [(PyData.int n).shown] := by simp only [PyData.shown, PyData.shownAll]
    have e2 : (PyData.dict [(.str z, .list [.int n])]).shown = dictText [(PyData.str z).shown ++ ": " ++ (PyData.list [.int n]).shown] := by simp only [PyData.shown, PyData.shownKv]
    have l1 := listText_le [(PyData.int n).shown]
    have l2 := dictText_le (ts := [(PyData.str z).shown ++ ": " ++ (PyData.list [.int n]).shown]) (by simp)
    have i1 := int_shown hn
    have i3 := wd_shown w
    have np : piled ([] : List Str) = 0 := rfl
    have k2 : ((((": " : String) : Str))).length = 2 := rfl
    rw [← e1, piled_cons, np] at l1
    rw [← e2, piled_cons, np, strLen_append, strLen_append, k2] at l2
    omega
def spValue : Sp := fun vs H Q _ => ∃ p : Addr, vs = [.ref p] ∧ Pur H p ∧ ∀ v H', (∀ H2, But p H' H2 → Vd H2 v) → Pur H' p → But p H H' → Q v H'
section
variable {P : Program} {w : World} {K : PySem.W.Frag} {mg : Str → Option Value} {base : Heap}
theorem ok_value {f : Addr} {fd : FuncData} (F : Fun K "_law_value" "_law_value" s__law_value f fd) (c__law_draw : Cal P w K mg base "_law_draw" 1 ["purse", "many"] spDraw)
    (c__law_signs : Cal P w K mg base "_law_signs" 2 ["purse"] spSigns) : FG P w K mg base CX0 3 f fd ["purse"] spValue := by
  refine fun_okG F sc__law_value (fun vs H Q E h => ?_) (fun cdv A outer s H vs Q E gd hr h => ?_)
  · obtain ⟨_, rfl, _⟩ := h
    rfl
  have nd := sc__law_value.nd
  obtain ⟨p, rfl, hp, q⟩ := h
  -- purse 0, way 1, size 2, small 3
  refine ⟨_, (pss_cons (ps_set (i := 1) nd rfl (Or.inl rfl) (pe_cg c__law_draw gd (hr.mono (by decide)) (by rfl) (pa_cons (pv 0) (pa_cons pe_int pa_nil))))
      (pss_cons (ps_set (i := 2) nd rfl (Or.inl rfl) (pe_ixL K (pe_lstN (pa_cons pe_int (pa_cons pe_int (pa_cons (pe_op op_pow pe_int pe_int) (pa_cons (pe_op op_pow pe_int pe_int) pa_nil))))) (pe_cg c__law_draw gd (hr.mono (by decide)) (by rfl) (pa_cons (pv 0) (pa_cons pe_int pa_nil)))))
      (pss_cons (ps_set (i := 3) nd rfl (Or.inl rfl) (pe_lstN (pa_cons pe_int (pa_cons pe_int (pa_cons pe_bl (pa_cons pe_bl (pa_cons pe_non (pa_cons pe_str (pa_cons (pe_tup pa_nil) (pa_cons (pe_lstN pa_nil) (pa_cons pe_dnewK (pa_cons (pe_tup (pa_cons (pe_tup pa_nil) (pa_cons (pe_lstN (pa_cons pe_int pa_nil)) pa_nil))) (pa_cons pe_str (pa_cons (pe_un un_neg pe_int) pa_nil))))))))))))))
      (pss_cons (ps_if (pt_cmpR op_lt (pv 1) pe_int (nomark _))
        (pss_one (ps_ret (pe_ifExp (pt_eqS (pe_cg c__law_draw gd (hr.mono (by decide)) (by rfl) (pa_cons (pv 0) (pa_cons pe_int pa_nil))) pe_int) (pe_op op_sub (pv 2) (pe_cg c__law_draw gd (hr.mono (by decide)) (by rfl) (pa_cons (pv 0) (pa_cons pe_int pa_nil)))) (pe_un un_neg (pv 2)))))
        pss_nil)
      (pss_cons (ps_if (pt_cmpR op_lt (pv 1) pe_int (nomark _))
        (pss_one (ps_ret (pe_cg c__law_signs gd (hr.mono (by decide)) (by rfl) (pa_cons (pv 0) pa_nil))))
        pss_nil)
      (pss_cons (ps_if (pt_cmpR op_lt (pv 1) pe_int (nomark _))
        (pss_one (ps_ret (pe_tup (pa_cons (pe_cg c__law_signs gd (hr.mono (by decide)) (by rfl) (pa_cons (pv 0) pa_nil)) (pa_cons (pe_cg c__law_draw gd (hr.mono (by decide)) (by rfl) (pa_cons (pv 0) (pa_cons pe_int pa_nil))) (pa_cons (pe_tup (pa_cons pe_str (pa_cons (pe_cg c__law_draw gd (hr.mono (by decide)) (by rfl) (pa_cons (pv 0) (pa_cons pe_int pa_nil))) pa_nil))) pa_nil))))))
        pss_nil)
      (pss_one (ps_ret (pe_ifExp (pt_eqS (pv 1) pe_int) (pe_disp (pps_cons (pe_cg c__law_signs gd (hr.mono (by decide)) (by rfl) (pa_cons (pv 0) pa_nil)) (pe_lstN (pa_cons (pv 2) pa_nil)) pps_nil) (by rfl) (by rfl) (by simp) (by decide)) (pe_ixL K (pv 3) (pe_cg c__law_draw gd (hr.mono (by decide)) (by rfl) (pa_cons (pv 0) (pa_cons pe_int pa_nil))))))))))))), ?_⟩
  have pw : ∀ n : Int, 0 ≤ n → n ≤ 39 → CPow 10 n := fun n h0 h1 => ⟨h0, by omega, by decide⟩
  refine ⟨_, rfl, p, _, rfl, hp, by decide, by decide, fun way H1 w0 w1 hp1 b1 => ?_⟩
  refine ⟨_, _, rfl, rfl, pw 12 (by decide) (by decide), _, _, rfl, rfl, pw 39 (by decide) (by decide), lz (by simp), fun l hl nl => ?_⟩
  refine ⟨_, rfl, p, _, rfl, hp1.new hl, by decide, by decide, fun d2 H2 d20 d21 hp2 b2 => ?_⟩
  have l2 := b2 l _ (nep hp1 hl) upd_same
  obtain ⟨v, hv, mv⟩ := pick (xs := [V.int 1, .int 400, .int ((10 : Int) ^ (12 : Int).toNat), .int ((10 : Int) ^ (39 : Int).toNat)]) d20 d21
  refine ⟨_, _, _, _, rfl, rfl, SqL.of l2, hv, ?_⟩
  obtain ⟨n, rfl, n0, n1⟩ : ∃ n : Int, v = .int n ∧ 0 ≤ n ∧ n ≤ 10 ^ 39 := by
    simp only [List.mem_cons, List.not_mem_nil, or_false] at mv
    rcases mv with rfl | rfl | rfl | rfl <;> exact ⟨_, rfl, by decide, by decide⟩
  have bu2 : But p H H2 := b1.trans ((But.new (But.refl p H1) hl).trans b2)
  -- small
  refine ⟨lz (by simp), fun y1 hy1 => ?_⟩
  dsimp only [tNil]
  refine ⟨lz (by simp), fun y2 hy2 ny2 => ?_⟩
  refine fun y3 hy3 => ?_
  refine ⟨lz (by simp), fun y4 hy4 => ?_⟩
  refine ⟨lz (by simp), fun y5 hy5 ny5 => ?_⟩
  refine ⟨lz (by simp), fun y6 hy6 => ?_⟩
  refine ⟨_, rfl, lz (by simp), fun L hL nL => ?_⟩
  have m1 : y1 ≠ p := nep hp2 hy1
  have b_1 := But.new (o := .tup []) bu2 hy1
  have q_1 := hp2.new (o := .tup []) hy1
  have x_1 : (L2.upd H2 y1 (.tup [])) y1 = some (.tup []) := upd_same
  generalize L2.upd H2 y1 (.tup []) = K1 at *
  have m2 : y2 ≠ p := nep q_1 hy2
  have b_2 := But.new (o := .lst []) b_1 hy2
  have q_2 := q_1.new (o := .lst []) hy2
  have x_2 : (L2.upd K1 y2 (.lst [])) y2 = some (.lst []) := upd_same
  have x_1' := (upd_ne (o := .lst []) (ne_of_none x_1 hy2)).trans x_1
  generalize L2.upd K1 y2 (.lst []) = K2 at *
  have m3 : y3 ≠ p := nep q_2 hy3
  have b_3 := But.new (o := .dK []) b_2 hy3
  have q_3 := q_2.new (o := .dK []) hy3
  have x_3 : (L2.upd K2 y3 (.dK [])) y3 = some (.dK []) := upd_same
  have x_1'' := (upd_ne (o := .dK []) (ne_of_none x_1' hy3)).trans x_1'
  have x_2' := (upd_ne (o := .dK []) (ne_of_none x_2 hy3)).trans x_2
  generalize L2.upd K2 y3 (.dK []) = K3 at *
  have m4 : y4 ≠ p := nep q_3 hy4
  have b_4 := But.new (o := .tup []) b_3 hy4
  have q_4 := q_3.new (o := .tup []) hy4
  have x_4 : (L2.upd K3 y4 (.tup [])) y4 = some (.tup []) := upd_same
  have x_1''' := (upd_ne (o := .tup []) (ne_of_none x_1'' hy4)).trans x_1''
  have x_2'' := (upd_ne (o := .tup []) (ne_of_none x_2' hy4)).trans x_2'
  have x_3' := (upd_ne (o := .tup []) (ne_of_none x_3 hy4)).trans x_3
  generalize L2.upd K3 y4 (.tup []) = K4 at *
  have m5 : y5 ≠ p := nep q_4 hy5
  have b_5 := But.new (o := .lst [V.int 1]) b_4 hy5
  have q_5 := q_4.new (o := .lst [V.int 1]) hy5
  have x_5 : (L2.upd K4 y5 (.lst [V.int 1])) y5 = some (.lst [V.int 1]) := upd_same
  have x_1'''' := (upd_ne (o := .lst [V.int 1]) (ne_of_none x_1''' hy5)).trans x_1'''
  have x_2''' := (upd_ne (o := .lst [V.int 1]) (ne_of_none x_2'' hy5)).trans x_2''
  have x_3'' := (upd_ne (o := .lst [V.int 1]) (ne_of_none x_3' hy5)).trans x_3'
  have x_4' := (upd_ne (o := .lst [V.int 1]) (ne_of_none x_4 hy5)).trans x_4
  generalize L2.upd K4 y5 (.lst [V.int 1]) = K5 at *
  have m6 : y6 ≠ p := nep q_5 hy6
  have b_6 := But.new (o := .tup [V.ref y4, V.ref y5]) b_5 hy6
  have q_6 := q_5.new (o := .tup [V.ref y4, V.ref y5]) hy6
  have x_6 : (L2.upd K5 y6 (.tup [V.ref y4, V.ref y5])) y6 = some (.tup [V.ref y4, V.ref y5]) := upd_same
  have x_1''''' := (upd_ne (o := .tup [V.ref y4, V.ref y5]) (ne_of_none x_1'''' hy6)).trans x_1''''
  have x_2'''' := (upd_ne (o := .tup [V.ref y4, V.ref y5]) (ne_of_none x_2''' hy6)).trans x_2'''
  have x_3''' := (upd_ne (o := .tup [V.ref y4, V.ref y5]) (ne_of_none x_3'' hy6)).trans x_3''
  have x_4'' := (upd_ne (o := .tup [V.ref y4, V.ref y5]) (ne_of_none x_4' hy6)).trans x_4'
  have x_5' := (upd_ne (o := .tup [V.ref y4, V.ref y5]) (ne_of_none x_5 hy6)).trans x_5
  generalize L2.upd K5 y6 (.tup [V.ref y4, V.ref y5]) = K6 at *
  have mL : L ≠ p := nep q_6 hL
  have bL := But.new (o := .lst [V.int 0, V.int 1, V.bl true, V.bl false, V.non, V.str (Str.ofString ""), V.ref y1, V.ref y2, V.ref y3, V.ref y6, V.str (Str.ofString "out"), V.int (-1)]) b_6 hL
  have qL := q_6.new (o := .lst [V.int 0, V.int 1, V.bl true, V.bl false, V.non, V.str (Str.ofString ""), V.ref y1, V.ref y2, V.ref y3, V.ref y6, V.str (Str.ofString "out"), V.int (-1)]) hL
  have xL : (L2.upd K6 L (.lst [V.int 0, V.int 1, V.bl true, V.bl false, V.non, V.str (Str.ofString ""), V.ref y1, V.ref y2, V.ref y3, V.ref y6, V.str (Str.ofString "out"), V.int (-1)])) L = some (.lst [V.int 0, V.int 1, V.bl true, V.bl false, V.non, V.str (Str.ofString ""), V.ref y1, V.ref y2, V.ref y3, V.ref y6, V.str (Str.ofString "out"), V.int (-1)]) := upd_same
  have z1 := (upd_ne (o := .lst [V.int 0, V.int 1, V.bl true, V.bl false, V.non, V.str (Str.ofString ""), V.ref y1, V.ref y2, V.ref y3, V.ref y6, V.str (Str.ofString "out"), V.int (-1)]) (ne_of_none x_1''''' hL)).trans x_1'''''
  have z2 := (upd_ne (o := .lst [V.int 0, V.int 1, V.bl true, V.bl false, V.non, V.str (Str.ofString ""), V.ref y1, V.ref y2, V.ref y3, V.ref y6, V.str (Str.ofString "out"), V.int (-1)]) (ne_of_none x_2'''' hL)).trans x_2''''
  have z3 := (upd_ne (o := .lst [V.int 0, V.int 1, V.bl true, V.bl false, V.non, V.str (Str.ofString ""), V.ref y1, V.ref y2, V.ref y3, V.ref y6, V.str (Str.ofString "out"), V.int (-1)]) (ne_of_none x_3''' hL)).trans x_3'''
  have z4 := (upd_ne (o := .lst [V.int 0, V.int 1, V.bl true, V.bl false, V.non, V.str (Str.ofString ""), V.ref y1, V.ref y2, V.ref y3, V.ref y6, V.str (Str.ofString "out"), V.int (-1)]) (ne_of_none x_4'' hL)).trans x_4''
  have z5 := (upd_ne (o := .lst [V.int 0, V.int 1, V.bl true, V.bl false, V.non, V.str (Str.ofString ""), V.ref y1, V.ref y2, V.ref y3, V.ref y6, V.str (Str.ofString "out"), V.int (-1)]) (ne_of_none x_5' hL)).trans x_5'
  have z6 := (upd_ne (o := .lst [V.int 0, V.int 1, V.bl true, V.bl false, V.non, V.str (Str.ofString ""), V.ref y1, V.ref y2, V.ref y3, V.ref y6, V.str (Str.ofString "out"), V.int (-1)]) (ne_of_none x_6 hL)).trans x_6
  generalize L2.upd K6 L (.lst [V.int 0, V.int 1, V.bl true, V.bl false, V.non, V.str (Str.ofString ""), V.ref y1, V.ref y2, V.ref y3, V.ref y6, V.str (Str.ofString "out"), V.int (-1)]) = H9 at *
  have w1' : way < 12 := w1
  have vInt : ∀ z : Int, z.natAbs ≤ 10 ^ 40 → ∀ H2 : Hp, Vd H2 (.int z) := fun z hz H2 => vd_int (big_log hz)
  have t39 : (10 : Int) ^ 39 + 3 ≤ 10 ^ 40 := by decide
  have e40 : ((10 ^ 40 : Nat) : Int) = 10 ^ 40 := by decide
  have sz : n.natAbs ≤ 10 ^ 40 := by
    generalize (10 : Int) ^ 39 = a39 at *
    generalize (10 : Int) ^ 40 = a40 at *
    generalize (10 ^ 40 : Nat) = b40 at *
    omega
  refine ⟨_, rfl, _, _, rfl, rfl, _, rfl, ite2 (fun c1 => ?_) (fun c1 => ?_)⟩
  · refine ⟨_, rfl, p, _, rfl, qL, by decide, by decide, fun e H10 e0 e1 q10 b10 => ?_⟩
    refine ⟨rfl, _, rfl, ite2 (fun c2 => ?_) (fun c2 => ?_)⟩
    · refine ⟨_, rfl, _, rfl, p, _, rfl, q10, by decide, by decide, fun g H11 g0 g1 q11 b11 => ?_⟩
      have g1' : g < 3 := g1
      refine ⟨_, _, rfl, rfl, ?_⟩
      refine q _ _ (fun H2 _ => vInt _ ?_ H2) q11 ((bL.trans b10).trans b11)
      generalize (10 : Int) ^ 39 = a39 at *
      generalize (10 : Int) ^ 40 = a40 at *
      generalize (10 ^ 40 : Nat) = b40 at *
      omega
    · refine ⟨_, rfl, _, rfl, ?_⟩
      refine q _ _ (fun H2 _ => vInt _ ?_ H2) q10 (bL.trans b10)
      rw [Int.natAbs_neg]
      exact sz
  refine ⟨_, rfl, _, _, rfl, rfl, _, rfl, ite2 (fun c2 => ?_) (fun c2 => ?_)⟩
  · refine ⟨_, rfl, p, rfl, qL, fun z H10 wz q10 b10 => ?_⟩
    exact q _ _ (fun H2 _ => vd_str wz H2) q10 (bL.trans b10)
  refine ⟨_, rfl, _, _, rfl, rfl, _, rfl, ite2 (fun c3 => ?_) (fun c3 => ?_)⟩
  · refine ⟨_, rfl, p, rfl, qL, fun z H10 wz q10 b10 => ?_⟩
    refine ⟨_, rfl, p, _, rfl, q10, by decide, by decide, fun g H11 g0 g1 q11 b11 => ?_⟩
    refine ⟨_, rfl, p, _, rfl, q11, by decide, by decide, fun k H12 k0 k1 q12 b12 => ?_⟩
    refine ⟨lz (by simp), fun u hu => ?_⟩
    dsimp only [tNil]
    refine ⟨lz (by simp), fun t ht => ?_⟩
    have g1' : g < 50 := g1
    have k1' : k < 4 := k1
    have hg : g.natAbs.log2 < 1920 := big_log (Nat.le_trans (show g.natAbs ≤ 100 by omega) (by decide))
    have hk : k.natAbs.log2 < 1920 := big_log (Nat.le_trans (show k.natAbs ≤ 100 by omega) (by decide))
    have nu := nep q12 hu
    have q13 := q12.new (o := .tup [V.str (Str.ofString "out"), .int k]) hu
    have nt := nep q13 ht
    have t1 : (L2.upd (L2.upd H12 u (.tup [V.str (Str.ofString "out"), .int k])) t (.tup [V.str z, .int g, .ref u])) t = some (.tup [V.str z, .int g, .ref u]) := upd_same
    have u1 : (L2.upd (L2.upd H12 u (.tup [V.str (Str.ofString "out"), .int k])) t (.tup [V.str z, .int g, .ref u])) u = some (.tup [V.str (Str.ofString "out"), .int k]) := (upd_ne (ne_of_none upd_same ht)).trans upd_same
    exact q _ _ (fun H2 b => vd_row wz hg hk (b _ _ nt t1) (b _ _ nu u1)) (q13.new ht) (But.new (But.new (((bL.trans b10).trans b11).trans b12) hu) ht)
  refine ⟨_, rfl, rfl, _, rfl, ite2 (fun c4 => ?_) (fun c4 => ?_)⟩
  · refine fun D hD => ?_
    have qD := qL.new (o := .dK []) hD
    have nD := nep qL hD
    refine ⟨_, rfl, p, rfl, qD, fun z H10 wz q10 b10 => ?_⟩
    have D10 := b10 D _ nD upd_same
    refine ⟨_, rfl, lz (by simp), fun u hu nu => ?_⟩
    dsimp only [tNil]
    have mu := nep q10 hu
    have DU := (upd_ne (o := .lst [V.int n]) (ne_of_none D10 hu)).trans D10
    refine ⟨DU, [(Sum.inr z, .ref u)], rfl, by simp, ?_⟩
    have n1x : (L2.upd (L2.upd H10 u (.lst [V.int n])) D (.dK [((Sum.inr z : Key), V.ref u)])) D = some (.dK [((Sum.inr z : Key), V.ref u)]) := upd_same
    have n2x : (L2.upd (L2.upd H10 u (.lst [V.int n])) D (.dK [((Sum.inr z : Key), V.ref u)])) u = some (.lst [V.int n]) := (upd_ne (ne_of_none D10 hu).symm).trans upd_same
    have hD0 : H D = none := bL.free nD hD
    have bb : But p H (L2.upd (L2.upd H10 u (.lst [V.int n])) D (.dK [((Sum.inr z : Key), V.ref u)])) := fun c o nc e => by
      rw [upd_ne (ne_of_none e hD0)]
      exact But.new ((But.new bL hD).trans b10) hu c o nc e
    have pp : Pur (L2.upd (L2.upd H10 u (.lst [V.int n])) D (.dK [((Sum.inr z : Key), V.ref u)])) p := by
      obtain ⟨x, y, r, e, rr⟩ := q10.new (o := .lst [V.int n]) hu
      exact ⟨x, y, r, (upd_ne nD.symm).trans e, rr⟩
    exact q _ _ (fun H2 b => vd_dict wz (big_log sz) nu (b _ _ nD n1x) (b _ _ mu n2x)) pp bb
  · refine ⟨_, rfl, _, rfl, p, _, rfl, qL, by decide, by decide, fun e H10 e0 e1 q10 b10 => ?_⟩
    have L10 := b10 L _ mL xL
    obtain ⟨v, hv, mv⟩ := pick (xs := [V.int 0, .int 1, .bl true, .bl false, .non, .str (Str.ofString ""), .ref y1, .ref y2, .ref y3, .ref y6, .str (Str.ofString "out"), .int (-1)]) e0 e1
    refine ⟨_, _, _, _, rfl, rfl, SqL.of L10, hv, ?_⟩
    refine q _ _ (fun H2 b => ?_) q10 (bL.trans b10)
    have t1 := b _ _ m1 (b10 _ _ m1 z1)
    have t2 := b _ _ m2 (b10 _ _ m2 z2)
    have t3 := b _ _ m3 (b10 _ _ m3 z3)
    have t4 := b _ _ m4 (b10 _ _ m4 z4)
    have t5 := b _ _ m5 (b10 _ _ m5 z5)
    have t6 := b _ _ m6 (b10 _ _ m6 z6)
    simp only [List.mem_cons, List.not_mem_nil, or_false] at mv
    rcases mv with rfl | rfl | rfl | rfl | rfl | rfl | rfl | rfl | rfl | rfl | rfl | rfl
    · exact vd_int (by decide)
    · exact vd_int (by decide)
    · exact ⟨.inl ⟨rfl, fun a e => by cases e⟩, _, .bl _, by decide +kernel, by decide +kernel, by decide +kernel⟩
    · exact ⟨.inl ⟨rfl, fun a e => by cases e⟩, _, .bl _, by decide +kernel, by decide +kernel, by decide +kernel⟩
    · exact ⟨.inl ⟨rfl, fun a e => by cases e⟩, _, .non, by decide +kernel, by decide +kernel, by decide +kernel⟩
    · exact ⟨.inl ⟨rfl, fun a e => by cases e⟩, _, .str _, by decide +kernel, by decide +kernel, by decide +kernel⟩
    · exact ⟨.inr ⟨_, rfl, .inr (.inl ⟨_, t1⟩)⟩, _, .tup t1 .nil, by decide +kernel, by decide +kernel, by decide +kernel⟩
    · exact ⟨.inr ⟨_, rfl, .inl ⟨_, t2⟩⟩, _, .lst ny2 t2 .nil, by decide +kernel, by decide +kernel, by decide +kernel⟩
    · exact ⟨.inr ⟨_, rfl, .inr (.inr ⟨_, t3⟩)⟩, .dict [], .dct t3 rfl .nil, by decide +kernel, by decide +kernel, by decide +kernel⟩
    · exact ⟨.inr ⟨_, rfl, .inr (.inl ⟨_, t6⟩)⟩, _, .tup t6 (.cons (.tup t4 .nil) (.cons (.lst ny5 t5 (.cons (.int 1) .nil)) .nil)), by decide +kernel, by decide +kernel, by decide +kernel⟩
    · exact ⟨.inl ⟨rfl, fun a e => by cases e⟩, _, .str _, by decide +kernel, by decide +kernel, by decide +kernel⟩
    · exact vd_int (by decide)
end
end Lk
set_option Elab.async false
set_option linter.all false
namespace Lk
open PySem PySem.Spec PyProof.Rows L2 G TL
/-! ### what is kept -/
abbrev s__law_keeps : Stmt := top 40
theorem sc__law_keeps : FnScope ["e", "at", "one", "two"] ["e", "at", "one", "two"] (defScope s__law_keeps) := ⟨rfl, rfl, rfl, by decide +kernel, rfl, by decide +kernel, by decide +kernel⟩
mutual
theorem dy_mono {H H2 : Hp} (c : Same H H2) : ∀ {v : V} {d : PyData}, Dy H v d → Dy H2 v d
  | _, _, .non => .non
  | _, _, .bl b => .bl b
  | _, _, .int i => .int i
  | _, _, .str z => .str z
  | _, _, .lst n e h => .lst n (c _ _ e) (dy_all c h)
  | _, _, .tup e h => .tup (c _ _ e) (dy_all c h)
  | _, _, .dct e k h => .dct (c _ _ e) k (dy_all c h)
theorem dy_all {H H2 : Hp} (c : Same H H2) : ∀ {vs : List V} {ds : List PyData}, DyAll H vs ds → DyAll H2 vs ds
  | _, _, .nil => .nil
  | _, _, .cons h t => .cons (dy_mono c h) (dy_all c t)
end
theorem Vd.mono {H H2 : Hp} {v : V} (h : Vd H v) (c : Same H H2) : Vd H2 v := by
  obtain ⟨e, d, hd, r⟩ := h
  refine ⟨?_, d, dy_mono c hd, r⟩
  rcases e with e | ⟨a, rfl, ⟨xs, e⟩ | ⟨xs, e⟩ | ⟨xs, e⟩⟩
  · exact .inl e
  · exact .inr ⟨a, rfl, .inl ⟨xs, c _ _ e⟩⟩
  · exact .inr ⟨a, rfl, .inr (.inl ⟨xs, c _ _ e⟩)⟩
  · exact .inr ⟨a, rfl, .inr (.inr ⟨xs, c _ _ e⟩)⟩
/-- v == v -/
def rEqV : R2 := fun x y H Q => x = y ∧ EqOk H x ∧ Q (.bl true) H
theorem op_eqV {X : Cx} {k : Nat} (hr : Room k X.A) : OpR X (compareOp .Eq) rEqV := by
  intro pins s σ H x y v u Q I rx ry h
  obtain ⟨rfl, ok, q⟩ := h
  rcases ok with ⟨sc, _⟩ | ⟨a, rfl, kd⟩
  · refine op_eq pins s σ H x x v u Q I rx ry ⟨sc, ?_⟩
    rw [decide_eq_true rfl]
    exact q
  · exact op_eqMe hr pins s σ H _ _ v u Q I rx ry ⟨a, rfl, rfl, kd, q⟩
structure TxK (K : PySem.W.Frag) (mg : Str → Option Value) (Ct : Nat → Addr) : Prop where
  b_repr : mg "repr" = none
  xc : ∀ i, i < 21 → Xc K (Ct i)
  nG : ∀ i, i < 17 → PySem.W.findIn K (.ref (Ct i)) "given" = some none
  nI : PySem.W.findIn K (.ref (Ct 17)) "index" = some none
  nC : PySem.W.findIn K (.ref (Ct 18)) "count" = some none
  nW : PySem.W.findIn K (.ref (Ct 18)) "where" = some none
  nX : PySem.W.findIn K (.ref (Ct 20)) "index" = some none
  nS : PySem.W.findIn K (.ref (Ct 20)) "shown" = some none
def spKeeps (Ct : Nat → Addr) : Sp := fun vs H Q _ => ∃ (a : Addr) (i : Nat) (v1 v2 : V), vs = [.ref a, .int (i : Int), v1, v2] ∧ i < 21 ∧ FullAt (Ct i) (fieldsOf i v1 v2) H a ∧ Vd H v1 ∧ Vd H v2 ∧ ∀ H', Same H H' → Q (.bl true) H'
theorem dec_nat {m n : Nat} : decide (V.int (m : Int) = V.int (n : Int)) = decide (m = n) := by
  by_cases h : m = n
  · rw [h, decide_eq_true rfl, decide_eq_true rfl]
  · rw [decide_eq_false h, decide_eq_false fun e => h (by have := V.int.inj e; omega)]
theorem rd_one {H : Hp} {v : V} {d : PyData} {Q : VK} (hd : Dy H v d) (sh : d.showable = true) (dp : d.depth ≤ 20) (sz : d.shown.length ≤ 20000) (q : Q (.str d.shown) H) : rReprY [v] H Q :=
  ⟨v, d, rfl, hd, sh, by omega, Nat.le_trans sz (by decide), q⟩
theorem rd_two {H : Hp} {l : Addr} {v1 v2 : V} {d1 d2 : PyData} {Q : VK} (nl : l ≠ sysModules) (hl : H l = some (.lst [v1, v2])) (h1 : Dy H v1 d1) (h2 : Dy H v2 d2) (s1 : d1.showable = true) (s2 : d2.showable = true) (p1 : d1.depth ≤ 20) (p2 : d2.depth ≤ 20)
    (z1 : d1.shown.length ≤ 20000) (z2 : d2.shown.length ≤ 20000) (q : Q (.str (PyData.list [d1, d2]).shown) H) : rReprY [.ref l] H Q := by
  refine ⟨.ref l, .list [d1, d2], rfl, .lst nl hl (.cons h1 (.cons h2 .nil)), ?_, ?_, ?_, q⟩
  · simp [PyData.showable, PyData.showableAll, s1, s2]
  · have e : PyData.depth (.list [d1, d2]) = 1 + max d1.depth (max d2.depth (PyData.depthAll [])) := by
      simp only [PyData.depth, PyData.depthAll]
      omega
    have e0 : PyData.depthAll [] = 0 := by simp [PyData.depthAll]
    rw [e, e0]
    omega
  · have e1 : (PyData.list [d1, d2]).shown = listText [d1.shown, d2.shown] := by simp only [PyData.shown, PyData.shownAll]
    have l1 := listText_le [d1.shown, d2.shown]
    have np : piled ([] : List Str) = 0 := rfl
    rw [← e1, piled_cons, piled_cons, np] at l1
    exact Nat.le_trans (show _ ≤ 50000 by omega) (by decide)
section
variable {P : Program} {w : World} {K : PySem.W.Frag} {mg : Str → Option Value} {base : Heap} {Ct : Nat → Addr}
theorem ok_keeps {f : Addr} {fd : FuncData} (F : Fun K "_law_keeps" "_law_keeps" s__law_keeps f fd) (T : TxK K mg Ct) : FG P w K mg base CX0 1 f fd ["e", "at", "one", "two"] (spKeeps Ct) := by
  refine fun_okG F sc__law_keeps (fun vs H Q E h => ?_) (fun cdv A outer s H vs Q E gd hr h => ?_)
  · obtain ⟨_, _, _, _, rfl, _⟩ := h
    rfl
  have nd := sc__law_keeps.nd
  obtain ⟨a, i, v1, v2, rfl, hi, ⟨dd, ea, fu, _⟩, ⟨ok1, d1, g1, s1, p1, z1⟩, ⟨ok2, d2, g2, s2, p2, z2⟩, q⟩ := h
  -- e 0, at 1, one 2, two 3
  refine ⟨_, (pss_cons (ps_if (pt_cmpR op_lt (pv 1) pe_int (nomark _))
        (pss_one (ps_ret (pe_and (pe_eqS (pe_callB (call_reprY gd hr) (by rfl) T.b_repr (by decide +kernel) (pa_cons (pe_xrd (K := K) (pv 0)) pa_nil)) (pe_callB (call_reprY gd hr) (by rfl) T.b_repr (by decide +kernel) (pa_cons (pv 2) pa_nil))) (pe_one (pe_cmpR (op_eqV hr) (pe_xrd (K := K) (pv 0)) (pv 2) (nomark _))))))
        pss_nil)
      (pss_cons (ps_if (pt_eqS (pv 1) pe_int)
        (pss_one (ps_ret (pe_eqS (pe_callB (call_reprY gd hr) (by rfl) T.b_repr (by decide +kernel) (pa_cons (pe_xrd (K := K) (pv 0)) pa_nil)) (pe_callB (call_reprY gd hr) (by rfl) T.b_repr (by decide +kernel) (pa_cons (pv 2) pa_nil)))))
        pss_nil)
      (pss_cons (ps_if (pt_eqS (pv 1) pe_int)
        (pss_one (ps_ret (pe_eqS (pe_callB (call_reprY gd hr) (by rfl) T.b_repr (by decide +kernel) (pa_cons (pe_lstN (pa_cons (pe_xrd (K := K) (pv 0)) (pa_cons (pe_xrd (K := K) (pv 0)) pa_nil))) pa_nil)) (pe_callB (call_reprY gd hr) (by rfl) T.b_repr (by decide +kernel) (pa_cons (pe_lstN (pa_cons (pv 2) (pa_cons (pv 3) pa_nil))) pa_nil)))))
        pss_nil)
      (pss_one (ps_ret (pe_or (pe_eqS (pv 1) pe_int) (pe_one (pe_eqS (pe_callB (call_reprY gd hr) (by rfl) T.b_repr (by decide +kernel) (pa_cons (pe_lstN (pa_cons (pe_xrd (K := K) (pv 0)) (pa_cons (pe_xrd (K := K) (pv 0)) pa_nil))) pa_nil)) (pe_callB (call_reprY gd hr) (by rfl) T.b_repr (by decide +kernel) (pa_cons (pe_lstN (pa_cons (pv 2) (pa_cons (pv 3) pa_nil))) pa_nil)))))))))), ?_⟩
  refine ⟨_, rfl, _, _, rfl, rfl, _, rfl, ite2 (fun c => ?_) (fun c => ?_)⟩
  · have li : i < 17 := by have := of_decide_eq_true c; omega
    have ef : fieldsOf i v1 v2 = ([("given", v1)] : List (Str × V)) := by
      unfold fieldsOf
      rw [if_pos li]
    rw [ef] at fu
    obtain ⟨dx, rfl, ed⟩ := fu (by simp)
    refine ⟨_, rfl, a, Ct i, dx, _, v1, rfl, T.xc i hi, T.nG i li, ea, ed, by simp [List.lookup], ?_⟩
    dsimp only [tNil]
    refine rd_one g1 s1 p1 z1 ?_
    refine ⟨_, rfl, ?_⟩
    dsimp only [tNil]
    refine rd_one g1 s1 p1 z1 ?_
    refine ⟨rfl, _, rfl, ite2 (fun _ => ?_) (fun z => absurd (decide_eq_true rfl) z)⟩
    exact ⟨_, rfl, a, Ct i, dx, _, v1, rfl, T.xc i hi, T.nG i li, ea, ed, by simp [List.lookup], _, rfl, rfl, ok1, q _ (Same.refl _)⟩
  have gi : ¬ i < 17 := fun z => c (decide_eq_true (by omega))
  refine ⟨_, rfl, rfl, _, rfl, ite2 (fun c2 => ?_) (fun c2 => ?_)⟩
  · have li : i = 17 := by
      rw [show (V.int 17) = V.int ((17 : Nat) : Int) from rfl, dec_nat] at c2
      exact of_decide_eq_true c2
    subst li
    obtain ⟨dx, rfl, ed⟩ := fu (by simp [fieldsOf])
    refine ⟨_, rfl, a, Ct 17, dx, _, v1, rfl, T.xc 17 hi, T.nI, ea, ed, by simp [fieldsOf, List.lookup], ?_⟩
    dsimp only [tNil]
    refine rd_one g1 s1 p1 z1 ?_
    refine ⟨_, rfl, ?_⟩
    dsimp only [tNil]
    refine rd_one g1 s1 p1 z1 ?_
    refine ⟨rfl, ?_⟩
    rw [decide_eq_true rfl]
    exact q _ (Same.refl _)
  refine ⟨_, rfl, rfl, _, rfl, ite2 (fun c3 => ?_) (fun c3 => ?_)⟩
  · have li : i = 18 := by
      rw [show (V.int 18) = V.int ((18 : Nat) : Int) from rfl, dec_nat] at c3
      exact of_decide_eq_true c3
    subst li
    have ef : fieldsOf 18 v1 v2 = ([("where", v2), ("count", v1)] : List (Str × V)) := by simp [fieldsOf]
    rw [ef] at fu
    obtain ⟨dx, rfl, ed⟩ := fu (by simp)
    have k1 : (([("where", v2), ("count", v1)] : List (Str × V))).lookup ("count" : Str) = some v1 := by
      rw [lookup_put, if_neg (by decide +kernel), lookup_put, if_pos rfl]
    have k2 : (([("where", v2), ("count", v1)] : List (Str × V))).lookup ("where" : Str) = some v2 := by
      rw [lookup_put, if_pos rfl]
    refine ⟨_, rfl, a, Ct 18, dx, _, v1, rfl, T.xc 18 hi, T.nC, ea, ed, k1, _, rfl, a, Ct 18, dx, _, v2, rfl, T.xc 18 hi, T.nW, ea, ed, k2, lz (by simp), fun l hl nl => ?_⟩
    have c1 : Same H (L2.upd H l (.lst [v1, v2])) := Same.new (Same.refl _) hl
    dsimp only [tNil]
    refine rd_two nl upd_same (dy_mono c1 g1) (dy_mono c1 g2) s1 s2 p1 p2 z1 z2 ?_
    refine ⟨_, rfl, _, rfl, lz (by simp), fun l2 hl2 nl2 => ?_⟩
    have c2' := Same.new (o := .lst [v1, v2]) c1 hl2
    dsimp only [tNil]
    refine rd_two nl2 upd_same (dy_mono c2' g1) (dy_mono c2' g2) s1 s2 p1 p2 z1 z2 ?_
    refine ⟨rfl, ?_⟩
    rw [decide_eq_true rfl]
    exact q _ c2'
  refine ⟨_, rfl, rfl, _, rfl, ite2 (fun c4 => ?_) (fun c4 => ?_)⟩
  · exact q _ (Same.refl _)
  · have li : i = 20 := by
      have n1 : ¬ i = 17 := fun z => c2 (by rw [show (V.int 17) = V.int ((17 : Nat) : Int) from rfl, dec_nat]; exact decide_eq_true z)
      have n2 : ¬ i = 18 := fun z => c3 (by rw [show (V.int 18) = V.int ((18 : Nat) : Int) from rfl, dec_nat]; exact decide_eq_true z)
      have n3 : ¬ i = 19 := fun z => c4 (by rw [show (V.int 19) = V.int ((19 : Nat) : Int) from rfl, dec_nat]; exact decide_eq_true z)
      omega
    subst li
    have ef : fieldsOf 20 v1 v2 = ([("shown", v2), ("index", v1)] : List (Str × V)) := by simp [fieldsOf]
    rw [ef] at fu
    obtain ⟨dx, rfl, ed⟩ := fu (by simp)
    have k1 : (([("shown", v2), ("index", v1)] : List (Str × V))).lookup ("index" : Str) = some v1 := by
      rw [lookup_put, if_neg (by decide +kernel), lookup_put, if_pos rfl]
    have k2 : (([("shown", v2), ("index", v1)] : List (Str × V))).lookup ("shown" : Str) = some v2 := by
      rw [lookup_put, if_pos rfl]
    refine ⟨_, rfl, a, Ct 20, dx, _, v1, rfl, T.xc 20 hi, T.nX, ea, ed, k1, _, rfl, a, Ct 20, dx, _, v2, rfl, T.xc 20 hi, T.nS, ea, ed, k2, lz (by simp), fun l hl nl => ?_⟩
    have c1 : Same H (L2.upd H l (.lst [v1, v2])) := Same.new (Same.refl _) hl
    dsimp only [tNil]
    refine rd_two nl upd_same (dy_mono c1 g1) (dy_mono c1 g2) s1 s2 p1 p2 z1 z2 ?_
    refine ⟨_, rfl, _, rfl, lz (by simp), fun l2 hl2 nl2 => ?_⟩
    have c2' := Same.new (o := .lst [v1, v2]) c1 hl2
    dsimp only [tNil]
    refine rd_two nl2 upd_same (dy_mono c2' g1) (dy_mono c2' g2) s1 s2 p1 p2 z1 z2 ?_
    refine ⟨rfl, ?_⟩
    rw [decide_eq_true rfl]
    exact q _ c2'
end
end Lk
set_option Elab.async false
set_option linter.all false
namespace Lk
open PySem PySem.Spec PyProof.Rows L2 G TL
open C8 (pss_cut tCut)
abbrev s__law_right : Stmt := top 41
theorem sc__law_right : FnScope ["purse", "one", "two", "some", "kept", "e", "at"] ["purse"] (defScope s__law_right) := ⟨rfl, rfl, rfl, by decide +kernel, rfl, by decide +kernel, by decide +kernel⟩
abbrev s_law : Stmt := top 42
theorem sc_law : FnScope ["cells", "told", "k"] ["cells"] (defScope s_law) := ⟨rfl, rfl, rfl, by decide +kernel, rfl, by decide +kernel, by decide +kernel⟩
theorem lc_enum {K : PySem.W.Frag} {a : Addr} {xs : List V} {g : TG} {tt : TT} {te : TE} {vs : List Nat} {σ : L2.St} {H1 : Hp} {D : Addr} {Qd : Hp → Prop} (Pv : Nat → Hp → Prop) (h0 : Pv 0 (L2.upd H1 D (.lst []))) (hl : ∀ i H, i ≤ xs.length → Pv i H → SqL K H a xs)
    (hs : ∀ i x T H, xs[i]? = some x → H T = none → Pv i H → g (.ref T) (wipe σ vs) (L2.upd H T (.tup [.int (i : Nat), x])) fun σ2 H2 => wipe σ2 vs = wipe σ vs ∧ tt σ2 H2 fun b H3 =>
      if b = true then te σ2 H3 fun y H4 => ∃ acc, H4 D = some (.lst acc) ∧ acc.length < sizeLine ∧ Pv (i + 1) (L2.upd H4 D (.lst (acc ++ [y]))) else Pv (i + 1) H3) (hd : ∀ H, Pv xs.length H → Qd H) :
    ∃ W : Nat → Nat → Hp → Prop, (∃ m, W 0 m (L2.upd H1 D (.lst []))) ∧ ∀ i m H, W i m H →
      ((Ite K a).stop i H ∧ Qd H) ∨ ((Ite K a).go i H ∧ ∃ Nx : Hp → Prop, (∀ H', Nx H' → ∃ m', m' < m ∧ W (i + 1) m' H') ∧ ∀ x H', (Ite K a).yld i H x H' → g x (wipe σ vs) H' fun σ2 H2 => wipe σ2 vs = wipe σ vs ∧ tt σ2 H2 fun b H3 =>
        if b = true then te σ2 H3 fun y H4 => ∃ acc, H4 D = some (.lst acc) ∧ acc.length < sizeLine ∧ Nx (L2.upd H4 D (.lst (acc ++ [y]))) else Nx H3) := by
  refine ⟨fun i m H => m = xs.length - i ∧ i ≤ xs.length ∧ Pv i H, ⟨xs.length, by simp, Nat.zero_le _, h0⟩, ?_⟩
  rintro i m H ⟨rfl, hi, p⟩
  have q := hl i H hi p
  by_cases lt : i < xs.length
  · refine .inr ⟨⟨xs, xs[i], q, by simp [lt]⟩, Pv (i + 1), fun H' p' => ⟨xs.length - (i + 1), by omega, rfl, lt, p'⟩, ?_⟩
    rintro v H' ⟨T, x, rfl, hT, rfl, at_⟩
    exact hs i x T H (at_ xs q) hT p
  · have e : i = xs.length := by omega
    subst e
    exact .inl ⟨⟨xs, q, Nat.le_refl _⟩, hd H p⟩
structure TxR (K : PySem.W.Frag) (mg : Str → Option Value) : Prop where
  b_enumerate : mg "enumerate" = none
  b_list : mg "list" = none
  b_range : mg "range" = none
/-- one of every class, in their order -/
def Good (Ct : Nat → Addr) (H : Hp) (L : Addr) : Prop := ∃ as : List Addr, as.length = 21 ∧ (∀ i a, as[i]? = some a → ∃ fs, FullAt (Ct i) fs H a) ∧ H L = some (.lst (as.map V.ref))
theorem Good.mono {Ct : Nat → Addr} {H H2 : Hp} {L : Addr} (g : Good Ct H L) (c : Same H H2) : Good Ct H2 L := by
  obtain ⟨as, n, f, h⟩ := g
  refine ⟨as, n, fun i a z => ?_, c _ _ h⟩
  obtain ⟨fs, q⟩ := f i a z
  exact ⟨fs, q.mono c⟩
theorem dpN {K : PySem.W.Frag} {H : Hp} : ∀ l : List Nat, DpAll K H (l.map fun j => V.int ((j : Nat) : Int)) (l.map fun j => PyData.int ((j : Nat) : Int))
  | [] => .nil
  | j :: r => .cons (.int _) (dpN r)
theorem dpT {K : PySem.W.Frag} {H : Hp} : ∀ n : Nat, DpAll K H (List.replicate n (V.bl true)) (List.replicate n (PyData.bool true))
  | 0 => .nil
  | n + 1 => .cons (.bl true) (dpT n)
theorem over_same {H0 H : Hp} {D : Addr} {xs ys : List V} (c : Same H0 H) (n : H0 D = none) : Same H0 (L2.upd H D (.lst ys)) := fun b o e => by
  rw [upd_ne (ne_of_none e n)]
  exact c _ _ e
def spRight : Sp := fun vs H Q _ => ∃ p : Addr, vs = [.ref p] ∧ Pur H p ∧ ∀ H', But p H H' → Q (.bl true) H'
section
variable {P : Program} {w : World} {K : PySem.W.Frag} {mg : Str → Option Value} {base : Heap} {Ct : Nat → Addr}
theorem ok_right {f : Addr} {fd : FuncData} (F : Fun K "_law_right" "_law_right" s__law_right f fd) (T : TxR K mg)
    (c__law_value : Cal P w K mg base "_law_value" 3 ["purse"] spValue) (c__law_by_place : Cal P w K mg base "_law_by_place" 3 ["one", "two"] (spAll Ct)) (c__law_by_name : Cal P w K mg base "_law_by_name" 3 ["one", "two"] (spAll Ct))
    (c__law_sort : Cal P w K mg base "_law_sort" 1 ["e"] (spSort Ct)) (c__law_keeps : Cal P w K mg base "_law_keeps" 1 ["e", "at", "one", "two"] (spKeeps Ct)) : FG P w K mg base CX0 5 f fd ["purse"] spRight := by
  refine fun_okG F sc__law_right (fun vs H Q E h => ?_) (fun cdv A outer s H vs Q E gd hr h => ?_)
  · obtain ⟨_, rfl, _⟩ := h
    rfl
  have nd := sc__law_right.nd
  obtain ⟨p, rfl, hp, q⟩ := h
  -- purse 0, one 1c, two 2c, some 3, kept 4, e 5, at 6
  refine ⟨_, (pss_cut (ps_asg (pe_tup (pa_cons (pe_cg c__law_value gd (hr.mono (by decide)) (by rfl) (pa_cons (pv 0) pa_nil)) (pa_cons (pe_cg c__law_value gd (hr.mono (by decide)) (by rfl) (pa_cons (pv 0) pa_nil)) pa_nil))) (pg_tup (by rfl) (pgs_cons (pg_name (i := 1) nd rfl (Or.inr rfl)) (pgs_cons (pg_name (i := 2) nd rfl (Or.inr rfl)) pgs_nil))))
      (pss_cut (ps_for PassesOwn.never rfl (pi_list (pe_lst (pa_cons (pe_cg c__law_by_place gd (hr.mono (by decide)) (by rfl) (pa_cons (pv 1) (pa_cons (pv 2) pa_nil))) (pa_cons (pe_cg c__law_by_name gd (hr.mono (by decide)) (by rfl) (pa_cons (pv 1) (pa_cons (pv 2) pa_nil))) (pa_cons (pe_cg c__law_by_place gd (hr.mono (by decide)) (by rfl) (pa_cons (pv 2) (pa_cons (pv 1) pa_nil))) pa_nil))))) (pg_name (i := 3) nd rfl (Or.inl rfl))
        (pss_one (ps_if (pt_neD hr (pe_lc (own := [("e", 5)]) (g := gName 5) (by rfl) nd (pi_list (pv 3)) (blkOk_by (own := [("e", 5)]) (N := ["purse", "one", "two", "some", "kept", "e", "at"]) (sc := defScope s__law_right) (by decide +kernel)) (fun _ _ _ _ _ => pg_name (i := 5) nd rfl (Or.inl rfl)) (fun _ _ _ _ _ => pts_nil) (fun _ _ _ _ _ => (pe_cg c__law_sort gd (hr.mono (by decide)) (by rfl) (pa_cons (pv 5) pa_nil)))) (pe_listRg rfl (by rfl) T.b_list (prg_1 (by rfl) T.b_range pe_int)))
            (pss_one (ps_ret pe_bl))
            pss_nil)))
      (pss_cut (ps_setLc (i := 4) (own := [("at", 6), ("e", 5)]) (g := gTup K 2 (gCons (gName 6) (gCons (gName 5) gNil))) (by rfl) nd rfl rfl (sw_true rfl rfl rfl (by decide +kernel)) (pi_enum (by rfl) T.b_enumerate (pa_cons (pe_cg c__law_by_place gd (hr.mono (by decide)) (by rfl) (pa_cons (pv 1) (pa_cons (pv 2) pa_nil))) pa_nil)) (blkOk_by (own := [("at", 6), ("e", 5)]) (N := ["purse", "one", "two", "some", "kept", "e", "at"]) (sc := defScope s__law_right) (by decide +kernel)) (fun _ _ _ _ _ => (pg_tup (by rfl) (pgs_cons (pg_name (i := 6) nd rfl (Or.inl rfl)) (pgs_cons (pg_name (i := 5) nd rfl (Or.inl rfl)) pgs_nil)))) (fun _ _ _ _ _ => pts_nil) (fun _ _ _ _ _ => (pe_cg c__law_keeps gd (hr.mono (by decide)) (by rfl) (pa_cons (pv 5) (pa_cons (pv 6) (pa_cons (pv 1) (pa_cons (pv 2) pa_nil)))))))
      (pss_cut (ps_set (i := 4) nd rfl (Or.inl rfl) (pe_op op_cat (pv 4) (pe_lc (own := [("at", 6), ("e", 5)]) (g := gTup K 2 (gCons (gName 6) (gCons (gName 5) gNil))) (by rfl) nd (pi_enum (by rfl) T.b_enumerate (pa_cons (pe_cg c__law_by_name gd (hr.mono (by decide)) (by rfl) (pa_cons (pv 1) (pa_cons (pv 2) pa_nil))) pa_nil)) (blkOk_by (own := [("at", 6), ("e", 5)]) (N := ["purse", "one", "two", "some", "kept", "e", "at"]) (sc := defScope s__law_right) (by decide +kernel)) (fun _ _ _ _ _ => (pg_tup (by rfl) (pgs_cons (pg_name (i := 6) nd rfl (Or.inl rfl)) (pgs_cons (pg_name (i := 5) nd rfl (Or.inl rfl)) pgs_nil)))) (fun _ _ _ _ _ => pts_nil) (fun _ _ _ _ _ => (pe_cg c__law_keeps gd (hr.mono (by decide)) (by rfl) (pa_cons (pv 5) (pa_cons (pv 6) (pa_cons (pv 1) (pa_cons (pv 2) pa_nil)))))))))
      (pss_one (ps_ret (pe_eqD hr (pe_op op_cat (pv 4) (pe_lc (own := [("at", 6), ("e", 5)]) (g := gTup K 2 (gCons (gName 6) (gCons (gName 5) gNil))) (by rfl) nd (pi_enum (by rfl) T.b_enumerate (pa_cons (pe_cg c__law_by_place gd (hr.mono (by decide)) (by rfl) (pa_cons (pv 2) (pa_cons (pv 1) pa_nil))) pa_nil)) (blkOk_by (own := [("at", 6), ("e", 5)]) (N := ["purse", "one", "two", "some", "kept", "e", "at"]) (sc := defScope s__law_right) (by decide +kernel)) (fun _ _ _ _ _ => (pg_tup (by rfl) (pgs_cons (pg_name (i := 6) nd rfl (Or.inl rfl)) (pgs_cons (pg_name (i := 5) nd rfl (Or.inl rfl)) pgs_nil)))) (fun _ _ _ _ _ => pts_nil) (fun _ _ _ _ _ => (pe_cg c__law_keeps gd (hr.mono (by decide)) (by rfl) (pa_cons (pv 5) (pa_cons (pv 6) (pa_cons (pv 2) (pa_cons (pv 1) pa_nil)))))))) (pe_op op_rep (pe_lst (pa_cons pe_bl pa_nil)) pe_int)))))))), ?_⟩
  -- one, two
  refine ⟨fun σ H2 => ∃ v1 v2, σ = [some (.ref p), some v1, some v2, none, none, none, none] ∧ (∀ H3, Same H2 H3 → Vd H3 v1) ∧ (∀ H3, Same H2 H3 → Vd H3 v2) ∧ Pur H2 p ∧ But p H H2, ?_, ?_⟩
  · refine ⟨_, rfl, p, rfl, hp, fun v1 H1 k1 hp1 b1 => ?_⟩
    refine ⟨_, rfl, p, rfl, hp1, fun v2 H2 k2 hp2 b2 => ?_⟩
    refine ⟨lz (by simp), fun t ht => ?_⟩
    refine ⟨t, _, rfl, SqT.of upd_same, rfl, _, _, rfl, _, _, rfl, rfl, ?_⟩
    have s3 := Same.new (o := .tup [v1, v2]) (Same.refl H2) ht
    exact ⟨v1, v2, rfl, fun H3 c => k1 _ (b2.trans (But.same (s3.trans c))), fun H3 c => k2 _ (But.same (s3.trans c)), hp2.mono s3, (b1.trans b2).trans (But.same s3)⟩
  rintro σ H2 ⟨v1, v2, rfl, k1, k2, hp2, b2⟩
  -- for some in [..]
  refine ⟨fun σ H3 => ∃ y : Option V, σ = [some (.ref p), some v1, some v2, y, none, none, none] ∧ Same H2 H3, ?_, ?_⟩
  · refine ⟨_, rfl, _, rfl, v1, v2, rfl, fun La as1 H3 n1 f1 h1 s1 => ?_⟩
    refine ⟨_, rfl, _, rfl, v1, v2, rfl, fun Lb as2 H4 n2 f2 h2 s2 => ?_⟩
    refine ⟨_, rfl, _, rfl, v2, v1, rfl, fun Lc as3 H5 n3 f3 h3 s3 => ?_⟩
    refine ⟨lz (by simp), fun M hM => ?_⟩
    dsimp only [tNil]
    have s4 := Same.new (o := .lst [V.ref La, V.ref Lb, V.ref Lc]) (Same.refl H5) hM
    have M6 : (L2.upd H5 M (.lst [V.ref La, V.ref Lb, V.ref Lc])) M = some (.lst [V.ref La, V.ref Lb, V.ref Lc]) := upd_same
    have G1 : Good Ct (L2.upd H5 M (.lst [V.ref La, V.ref Lb, V.ref Lc])) La := Good.mono ⟨as1, n1, fun i a z => ⟨_, f1 i a z⟩, h1⟩ ((s2.trans s3).trans s4)
    have G2 : Good Ct (L2.upd H5 M (.lst [V.ref La, V.ref Lb, V.ref Lc])) Lb := Good.mono ⟨as2, n2, fun i a z => ⟨_, f2 i a z⟩, h2⟩ (s3.trans s4)
    have G3 : Good Ct (L2.upd H5 M (.lst [V.ref La, V.ref Lb, V.ref Lc])) Lc := Good.mono ⟨as3, n3, fun i a z => ⟨_, f3 i a z⟩, h3⟩ s4
    have c6 : Same H2 (L2.upd H5 M (.lst [V.ref La, V.ref Lb, V.ref Lc])) := ((s1.trans s2).trans s3).trans s4
    generalize L2.upd H5 M (.lst [V.ref La, V.ref Lb, V.ref Lc]) = H6 at *
    refine ⟨M, rfl, ⟨_, SqL.of M6⟩, for_list (D := { nx := fun σ H3 => ∃ y : Option V, σ = [some (.ref p), some v1, some v2, y, none, none, none] ∧ Same H2 H3, rt := Q }) (K := K) (a := M) (xs := [V.ref La, V.ref Lb, V.ref Lc]) (fun i σ H7 => ∃ y : Option V, σ = [some (.ref p), some v1, some v2, y, none, none, none] ∧ Same H6 H7)
      ⟨none, rfl, Same.refl _⟩ (fun i σ H7 _ ⟨_, _, e⟩ => SqL.of (e _ _ M6)) ?_ ?_⟩
    · rintro i x σ H7 hx ⟨y, rfl, c7⟩
      obtain ⟨L, rfl, gL⟩ : ∃ L, x = .ref L ∧ Good Ct H7 L := by
        have mx := List.mem_of_getElem? hx
        simp only [List.mem_cons, List.not_mem_nil, or_false] at mx
        rcases mx with rfl | rfl | rfl
        · exact ⟨_, rfl, G1.mono c7⟩
        · exact ⟨_, rfl, G2.mono c7⟩
        · exact ⟨_, rfl, G3.mono c7⟩
      obtain ⟨as, n, f, hL⟩ := gL
      refine ⟨_, rfl, L, rfl, ⟨_, SqL.of hL⟩, fun D hD => ?_⟩
      refine lc_list (K := K) (a := L) (xs := as.map V.ref) (fun i H8 => H8 D = some (.lst ((List.range i).map fun j => V.int ((j : Nat) : Int))) ∧ Same H7 H8) ⟨upd_same, Same.new (Same.refl _) hD⟩ (fun i H8 _ e => SqL.of (e.2 _ _ hL)) ?_ ?_
      · rintro j x H8 hx8 ⟨e1, e2⟩
        rw [List.getElem?_map] at hx8
        obtain ⟨a, ha, rfl⟩ := Option.map_eq_some_iff.mp hx8
        have hj : j < 21 := by
          obtain ⟨lt, _⟩ := List.getElem?_eq_some_iff.mp ha
          omega
        obtain ⟨fs, fa⟩ := f j a ha
        refine ⟨rfl, tyes ?_⟩
        refine ⟨_, rfl, a, j, rfl, hj, (fa.mono e2).ex, fun H9 c9 => ⟨_, c9 _ _ e1, ?_, ?_, ?_⟩⟩
        · rw [List.length_map, List.length_range]
          exact Nat.lt_of_lt_of_le hj (by decide)
        · rw [List.range_succ, List.map_append]
          exact upd_same
        · exact over_same (xs := []) (e2.trans c9) hD
      rintro H8 ⟨e1, e2⟩
      rw [List.length_map, n] at e1
      refine ⟨21, rfl, RgOk.of_le (by decide) (by decide) (by decide) (by decide), fun y2 hy2 => ?_⟩
      have e3 := (upd_ne (o := .lst (rgV 0 21)) (ne_of_none e1 hy2)).trans e1
      refine ⟨.list ((List.range 21).map fun j => PyData.int ((j : Nat) : Int)), .list ((List.range 21).map fun j => PyData.int ((j : Nat) : Int)), .lst (SqL.of e3) (dpN _), .lst (SqL.of upd_same) ?_, by decide +kernel, by decide +kernel, ?_⟩
      · have er : rgV 0 21 = (List.range 21).map fun j => V.int ((j : Nat) : Int) := by
          unfold rgV
          simp
        rw [er]
        exact dpN _
      refine ⟨_, rfl, ite2 (fun z => absurd z (by decide +kernel)) (fun _ => ?_)⟩
      exact ⟨_, rfl, c7.trans (Same.new e2 hy2)⟩
    · rintro σ H7 ⟨y, rfl, c7⟩
      exact ⟨y, rfl, c6.trans c7⟩
  rintro σ H3 ⟨y, rfl, c3⟩
  -- kept
  have key : ∀ (La : Addr) (as : List Addr) (va vb : V) (H4 : Hp), as.length = 21 → (∀ i a, as[i]? = some a → FullAt (Ct i) (fieldsOf i va vb) H4 a) → H4 La = some (.lst (as.map V.ref)) → True := fun _ _ _ _ _ _ _ _ => trivial
  refine ⟨fun σ H4 => ∃ (y : Option V) (D : Addr), σ = [some (.ref p), some v1, some v2, y, some (.ref D), none, none] ∧ Same H2 H4 ∧ H4 D = some (.lst (List.replicate 21 (.bl true))), ?_, ?_⟩
  · refine ⟨_, rfl, _, rfl, v1, v2, rfl, fun La as H4 n f h s4 => ?_⟩
    have c4 := c3.trans s4
    refine ⟨La, _, rfl, SqL.of h, fun D hD => ?_⟩
    have hD0 : H2 D = none := c4.free hD
    refine lc_enum (K := K) (a := La) (xs := as.map V.ref) (fun i H8 => H8 D = some (.lst (List.replicate i (.bl true))) ∧ Same H4 H8) ⟨upd_same, Same.new (Same.refl _) hD⟩ (fun i H8 _ e => SqL.of (e.2 _ _ h)) ?_ ?_
    · rintro i x t H8 hx hT ⟨e1, e2⟩
      rw [List.getElem?_map] at hx
      obtain ⟨a, ha, rfl⟩ := Option.map_eq_some_iff.mp hx
      have hi : i < 21 := by
        obtain ⟨lt, _⟩ := List.getElem?_eq_some_iff.mp ha
        omega
      have e3 := Same.new (o := .tup [V.int ((i : Nat) : Int), V.ref a]) e2 hT
      have d3 := (upd_ne (o := .tup [V.int ((i : Nat) : Int), V.ref a]) (ne_of_none e1 hT)).trans e1
      refine ⟨t, _, rfl, SqT.of upd_same, rfl, _, _, rfl, _, _, rfl, rfl, ?_⟩
      refine ⟨rfl, tyes ?_⟩
      refine ⟨_, rfl, _, rfl, _, rfl, _, rfl, a, i, v1, v2, rfl, hi, (f i a ha).mono e3, k1 _ (c4.trans e3), k2 _ (c4.trans e3), fun H9 c9 => ⟨_, c9 _ _ d3, ?_, ?_, ?_⟩⟩
      · rw [List.length_replicate]
        exact Nat.lt_of_lt_of_le hi (by decide)
      · rw [List.replicate_succ']
        exact upd_same
      · exact over_same (xs := []) (e3.trans c9) hD
    rintro H8 ⟨e1, e2⟩
    rw [List.length_map, n] at e1
    exact ⟨_, D, rfl, c4.trans e2, e1⟩
  rintro σ H4 ⟨y2, D, rfl, c4, kD⟩
  -- kept + [..]
  refine ⟨fun σ H5 => ∃ (y : Option V) (D : Addr), σ = [some (.ref p), some v1, some v2, y, some (.ref D), none, none] ∧ Same H2 H5 ∧ H5 D = some (.lst (List.replicate 42 (.bl true))), ?_, ?_⟩
  · refine ⟨_, rfl, _, rfl, _, rfl, v1, v2, rfl, fun La as H5 n f h s5 => ?_⟩
    have c5 := c4.trans s5
    have kD5 := s5 _ _ kD
    refine ⟨La, _, rfl, SqL.of h, fun B hB => ?_⟩
    refine lc_enum (K := K) (a := La) (xs := as.map V.ref) (fun i H8 => H8 B = some (.lst (List.replicate i (.bl true))) ∧ Same H5 H8) ⟨upd_same, Same.new (Same.refl _) hB⟩ (fun i H8 _ e => SqL.of (e.2 _ _ h)) ?_ ?_
    · rintro i x t H8 hx hT ⟨e1, e2⟩
      rw [List.getElem?_map] at hx
      obtain ⟨a, ha, rfl⟩ := Option.map_eq_some_iff.mp hx
      have hi : i < 21 := by
        obtain ⟨lt, _⟩ := List.getElem?_eq_some_iff.mp ha
        omega
      have e3 := Same.new (o := .tup [V.int ((i : Nat) : Int), V.ref a]) e2 hT
      have d3 := (upd_ne (o := .tup [V.int ((i : Nat) : Int), V.ref a]) (ne_of_none e1 hT)).trans e1
      refine ⟨t, _, rfl, SqT.of upd_same, rfl, _, _, rfl, _, _, rfl, rfl, ?_⟩
      refine ⟨rfl, tyes ?_⟩
      refine ⟨_, rfl, _, rfl, _, rfl, _, rfl, a, i, v1, v2, rfl, hi, (f i a ha).mono e3, k1 _ (c5.trans e3), k2 _ (c5.trans e3), fun H9 c9 => ⟨_, c9 _ _ d3, ?_, ?_, ?_⟩⟩
      · rw [List.length_replicate]
        exact Nat.lt_of_lt_of_le hi (by decide)
      · rw [List.replicate_succ']
        exact upd_same
      · exact over_same (xs := []) (e3.trans c9) hB
    rintro H8 ⟨e1, e2⟩
    rw [List.length_map, n] at e1
    refine ⟨_, _, _, _, rfl, rfl, e2 _ _ kD5, e1, lz (by decide), fun C hC => ?_⟩
    refine ⟨_, C, rfl, (c5.trans e2).trans (Same.new (Same.refl _) hC), ?_⟩
    exact upd_same
  rintro σ H5 ⟨y3, D2, rfl, c5, kD2⟩
  refine ⟨_, rfl, _, rfl, _, rfl, v2, v1, rfl, fun La as H6 n f h s6 => ?_⟩
  have c6 := c5.trans s6
  have kD6 := s6 _ _ kD2
  refine ⟨La, _, rfl, SqL.of h, fun B hB => ?_⟩
  refine lc_enum (K := K) (a := La) (xs := as.map V.ref) (fun i H8 => H8 B = some (.lst (List.replicate i (.bl true))) ∧ Same H6 H8) ⟨upd_same, Same.new (Same.refl _) hB⟩ (fun i H8 _ e => SqL.of (e.2 _ _ h)) ?_ ?_
  · rintro i x t H8 hx hT ⟨e1, e2⟩
    rw [List.getElem?_map] at hx
    obtain ⟨a, ha, rfl⟩ := Option.map_eq_some_iff.mp hx
    have hi : i < 21 := by
      obtain ⟨lt, _⟩ := List.getElem?_eq_some_iff.mp ha
      omega
    have e3 := Same.new (o := .tup [V.int ((i : Nat) : Int), V.ref a]) e2 hT
    have d3 := (upd_ne (o := .tup [V.int ((i : Nat) : Int), V.ref a]) (ne_of_none e1 hT)).trans e1
    refine ⟨t, _, rfl, SqT.of upd_same, rfl, _, _, rfl, _, _, rfl, rfl, ?_⟩
    refine ⟨rfl, tyes ?_⟩
    refine ⟨_, rfl, _, rfl, _, rfl, _, rfl, a, i, v2, v1, rfl, hi, (f i a ha).mono e3, k2 _ (c6.trans e3), k1 _ (c6.trans e3), fun H9 c9 => ⟨_, c9 _ _ d3, ?_, ?_, ?_⟩⟩
    · rw [List.length_replicate]
      exact Nat.lt_of_lt_of_le hi (by decide)
    · rw [List.replicate_succ']
      exact upd_same
    · exact over_same (xs := []) (e3.trans c9) hB
  rintro H8 ⟨e1, e2⟩
  rw [List.length_map, n] at e1
  refine ⟨_, _, _, _, rfl, rfl, e2 _ _ kD6, e1, lz (by decide), fun C hC => ?_⟩
  have C1 : (L2.upd H8 C (.lst (List.replicate 42 (V.bl true) ++ List.replicate 21 (V.bl true)))) C = some (.lst (List.replicate 63 (V.bl true))) := upd_same
  have c8 := (c6.trans e2).trans (Same.new (o := .lst (List.replicate 42 (V.bl true) ++ List.replicate 21 (V.bl true))) (Same.refl _) hC)
  generalize L2.upd H8 C (.lst (List.replicate 42 (V.bl true) ++ List.replicate 21 (V.bl true))) = H9 at *
  refine ⟨lz (by simp), fun t ht => ?_⟩
  refine ⟨t, 63, _, rfl, rfl, upd_same, by decide, by decide, lz (by decide), fun z hz => ?_⟩
  have C2 := (upd_ne (o := .lst [V.bl true]) (ne_of_none C1 ht)).trans C1
  have C3 := (upd_ne (o := .lst (List.replicate (63 : Int).toNat [V.bl true]).flatten) (ne_of_none C2 hz)).trans C2
  refine ⟨_, _, .lst (SqL.of C3) (dpT 63), .lst (SqL.of upd_same) (dpT 63), by decide +kernel, by decide +kernel, ?_⟩
  rw [show PyData.eqv (.list (List.replicate 63 (PyData.bool true))) (.list (List.replicate 63 (PyData.bool true))) = true by decide +kernel]
  exact q _ ((b2.trans (But.same c8)).trans (But.same (Same.new (Same.new (Same.refl _) ht) hz)))
end
end Lk
set_option Elab.async false
set_option linter.all false
namespace Lk
open PySem PySem.Spec PyProof.Rows L2 G TL
open C8 (pss_cut tCut)
def IntsOk (ns : List Int) : Prop := ∀ n ∈ ns, n.natAbs.log2 < 1920
theorem piled_ints : ∀ (ns : List Int), IntsOk ns → piled (PyData.shownAll (ns.map PyData.int)) ≤ ns.length * 1923
  | [], _ => Nat.zero_le _
  | n :: r, h => by
    have ih := piled_ints r fun x hx => h x (List.mem_cons_of_mem _ hx)
    have l := int_text_len_1921 (h n List.mem_cons_self)
    show piled ((PyData.int n).shown :: PyData.shownAll (r.map PyData.int)) ≤ _
    rw [piled_cons, List.length_cons]
    have e : (PyData.int n).shown = ((toString n : String) : Str) := by simp only [PyData.shown]
    rw [e]
    omega
theorem dp_ints {K : PySem.W.Frag} {H : Hp} : ∀ ns : List Int, DpAll K H (ns.map V.int) (ns.map PyData.int)
  | [] => .nil
  | n :: r => .cons (.int n) (dp_ints r)
theorem showable_ints : ∀ ns : List Int, IntsOk ns → PyData.showableAll (ns.map PyData.int) = true
  | [], _ => rfl
  | n :: r, h => by
    show (PyData.showable (.int n) && PyData.showableAll (r.map PyData.int)) = true
    rw [showable_ints r fun x hx => h x (List.mem_cons_of_mem _ hx)]
    simp [PyData.showable, h n List.mem_cons_self]
theorem nodict_ints : ∀ ns : List Int, PyData.hasDictAll (ns.map PyData.int) = false
  | [] => rfl
  | n :: r => by
    show (PyData.hasDict (.int n) || PyData.hasDictAll (r.map PyData.int)) = false
    rw [nodict_ints r]
    rfl
theorem depth_ints : ∀ ns : List Int, PyData.depthAll (ns.map PyData.int) ≤ 1
  | [] => by decide
  | n :: r => by
    have ih := depth_ints r
    show max (PyData.depth (.int n)) (PyData.depthAll (r.map PyData.int)) ≤ 1
    have e : PyData.depth (.int n) ≤ 1 := by simp [PyData.depth]
    omega
/-- repr of a list of ints -/
theorem rd_ints {K : PySem.W.Frag} {H : Hp} {a : Addr} {ns : List Int} {Q : VK} (h : SqL K H a (ns.map V.int)) (ok : IntsOk ns) (ln : ns.length ≤ 1000) (q : Q (.str (PyData.list (ns.map PyData.int)).shown) H) : rReprD K [.ref a] H Q := by
  refine ⟨_, .list (ns.map .int), rfl, .lst h (dp_ints ns), ?_, ?_, ?_, ?_, q⟩
  · simpa [PyData.showable] using showable_ints ns ok
  · simpa [PyData.hasDict] using nodict_ints ns
  · have := depth_ints ns
    simp only [PyData.depth]
    omega
  · have e : (PyData.list (ns.map PyData.int)).shown = listText (PyData.shownAll (ns.map PyData.int)) := by simp only [PyData.shown]
    rw [e]
    have h1 := listText_le (PyData.shownAll (ns.map PyData.int))
    have h2 := piled_ints ns ok
    exact Nat.le_trans (show _ ≤ 2 + 1000 * 1923 by omega) (by decide)
theorem pe_gi {X : Cx} {x : Str} {i : Int} {pos : Pos} (hg : Gl X x) (h : ∃ t, X.mg x = some (.int i t)) (hd : (x == ("__debug__" : Str)) = false := by decide) : PE X (.Name x pos) (tC (.int i)) := by
  obtain ⟨t, h⟩ := h
  exact pe_glob hg h ⟨t, rfl⟩ hd
structure TxA (mg : Str → Option Value) : Prop where
  b_len : mg "len" = none
  b_min : mg "min" = none
  b_max : mg "max" = none
  b_range : mg "range" = none
  b_repr : mg "repr" = none
  b_all : mg "all" = none
  g_MOST_STEPS : ∃ t, mg "MOST_STEPS" = some (.int 8 t)
  g_MOST_OFFSET : ∃ t, mg "MOST_OFFSET" = some (.int 4 t)
  g_MOST_DISTANCE : ∃ t, mg "MOST_DISTANCE" = some (.int 3 t)
  g_MOST_LINES : ∃ t, mg "MOST_LINES" = some (.int 400 t)
  g_MOST_PLACES : ∃ t, mg "MOST_PLACES" = some (.int 80 t)
  g_MOST_BOUND : ∃ t, mg "MOST_BOUND" = some (.int 12 t)
  g_MOST_COUNT : ∃ t, mg "MOST_COUNT" = some (.int 400 t)
def spLaw (K : PySem.W.Frag) : Sp := fun vs H Q _ => ∃ (a : Addr) (ns : List Int), vs = [.ref a] ∧ SqL K H a (ns.map V.int) ∧ ns.length ≤ 63 ∧ ∀ H', Q (.bl true) H'
section
variable {P : Program} {w : World} {K : PySem.W.Frag} {mg : Str → Option Value} {base : Heap}
theorem ok_law {f : Addr} {fd : FuncData} (F : Fun K "law" "law" s_law f fd) (T : TxA mg)
    (c__law_purse : Cal P w K mg base "_law_purse" 1 ["cells", "k"] (spPurse K)) (c__law_right : Cal P w K mg base "_law_right" 5 ["purse"] spRight) :
    FG P w K mg base CX0 7 f fd ["cells"] (spLaw K) := by
  refine fun_okG F sc_law (fun vs H Q E h => ?_) (fun cdv A outer s H vs Q E gd hr h => ?_)
  · obtain ⟨_, _, rfl, _⟩ := h
    rfl
  have nd := sc_law.nd
  obtain ⟨a, ns, rfl, hS, hlen, q⟩ := h
  -- cells 0c, told 1, k 2
  refine ⟨_, (pss_cons (ps_set (i := 1) nd rfl (Or.inl rfl) (pe_lst (pa_cons (pe_gi (by rfl) T.g_MOST_STEPS) (pa_cons (pe_gi (by rfl) T.g_MOST_OFFSET) (pa_cons (pe_gi (by rfl) T.g_MOST_DISTANCE) (pa_cons (pe_gi (by rfl) T.g_MOST_LINES) (pa_cons (pe_gi (by rfl) T.g_MOST_PLACES) (pa_cons (pe_gi (by rfl) T.g_MOST_BOUND) (pa_cons (pe_gi (by rfl) T.g_MOST_COUNT) pa_nil)))))))))
      (pss_cut (ps_if (pt_neS (pe_callB (call_reprD gd hr) (by rfl) T.b_repr (by decide +kernel) (pa_cons (pv 1) pa_nil)) (pe_callB (call_reprD gd hr) (by rfl) T.b_repr (by decide +kernel) (pa_cons (pe_lst (pa_cons pe_int (pa_cons pe_int (pa_cons pe_int (pa_cons pe_int (pa_cons pe_int (pa_cons pe_int (pa_cons pe_int pa_nil)))))))) pa_nil)))
        (pss_one (ps_ret pe_bl))
        pss_nil)
      (pss_one (ps_ret (pe_callB (cr_all rfl) (by rfl) T.b_all (by decide +kernel) (pa_cons (pe_lc (own := [("k", 2)]) (g := gName 2) (by rfl) nd (pi_range1 (by rfl) T.b_range (pa_cons (pe_callB (call_max2 rfl) (by rfl) T.b_max (by decide +kernel) (pa_cons pe_int (pa_cons (pe_callB (call_min2 rfl) (by rfl) T.b_min (by decide +kernel) (pa_cons (pe_callB call_len_seq (by rfl) T.b_len (by decide +kernel) (pa_cons (pv 0) pa_nil)) (pa_cons pe_int pa_nil))) pa_nil))) pa_nil)) (blkOk_by (own := [("k", 2)]) (N := ["cells", "told", "k"]) (sc := defScope s_law) (by decide +kernel)) (fun _ _ _ _ _ => pg_name (i := 2) nd rfl (Or.inl rfl)) (fun _ _ _ _ _ => pts_nil) (fun _ _ _ _ _ => (pe_cg c__law_right gd (hr.mono (by decide)) (by rfl) (pa_cons (pe_cg c__law_purse gd (hr.mono (by decide)) (by rfl) (pa_cons (pv 0) (pa_cons (pv 2) pa_nil))) pa_nil)))) pa_nil)))))), ?_⟩
  refine ⟨lz (by simp), fun l hl => ?_⟩
  dsimp only [tNil]
  have l5 : (L2.upd H l (.lst [.int 8, .int 4, .int 3, .int 400, .int 80, .int 12, .int 400])) l = some (.lst [.int 8, .int 4, .int 3, .int 400, .int 80, .int 12, .int 400]) := upd_same
  have b5 : Same H (L2.upd H l (.lst [.int 8, .int 4, .int 3, .int 400, .int 80, .int 12, .int 400])) := Same.new (Same.refl _) hl
  generalize L2.upd H l (.lst [.int 8, .int 4, .int 3, .int 400, .int 80, .int 12, .int 400]) = H5 at *
  have ok5 : IntsOk [8, 4, 3, 400, 80, 12, 400] := show ∀ n ∈ ([8, 4, 3, 400, 80, 12, 400] : List Int), n.natAbs.log2 < 1920 from by decide
  refine ⟨fun σ H6 => σ = [some (.ref a), some (.ref l), none] ∧ Same H H6, ?_, ?_⟩
  · refine ⟨_, rfl, ?_⟩
    dsimp only [tNil]
    refine rd_ints (ns := [8, 4, 3, 400, 80, 12, 400]) (SqL.of l5) ok5 (by simp) ?_
    refine ⟨lz (by simp), fun l3 hl3 => ?_⟩
    dsimp only [tNil]
    refine rd_ints (ns := [8, 4, 3, 400, 80, 12, 400]) (SqL.of upd_same) ok5 (by simp) ?_
    refine ⟨rfl, _, rfl, iteNS rfl ?_⟩
    exact ⟨rfl, Same.new b5 hl3⟩
  rintro σ H6 ⟨rfl, b6⟩
  -- all([..])
  refine ⟨_, rfl, a, _, rfl, .inl (b6.seq hS), _, _, rfl, _, _, rfl, ?_⟩
  obtain ⟨n, hn, hn2⟩ : ∃ n : Nat, (if (if (6 : Int) < ((ns.map V.int).length : Int) then (6 : Int) else ((ns.map V.int).length : Int)) > 2 then (if (6 : Int) < ((ns.map V.int).length : Int) then (6 : Int) else ((ns.map V.int).length : Int)) else 2) = (n : Int) ∧ n ≤ 6 := by
    rw [List.length_map]
    split <;> split <;> first | exact ⟨6, rfl, by decide⟩ | exact ⟨2, rfl, by decide⟩ | exact ⟨ns.length, rfl, by omega⟩
  refine ⟨(n : Int), congrArg (fun z => [V.int z]) hn, by omega, by omega, fun D hD => ?_⟩
  have hD0 : H D = none := b6.free hD
  refine lc_range (lo := 0) (n := (n : Int).toNat) (fun i H3 => H3 D = some (.lst ((List.replicate i true).map V.bl)) ∧ Same H H3) ⟨upd_same, Same.new b6 hD⟩ ?_ ?_
  · rintro i H3 hi ⟨e1, e2⟩
    refine ⟨rfl, tyes ?_⟩
    refine ⟨_, rfl, _, rfl, a, ns, i, ?_, e2.seq hS, by omega, fun p H4 hp s4 pu4 => ?_⟩
    · show [V.ref a, V.int (0 + (i : Int))] = _
      rw [Int.zero_add]
    have npD : D ≠ p := fun z => by
      rw [← z, e1] at hp
      cases hp
    refine ⟨p, rfl, pu4, fun H5 b5 => ?_⟩
    have e5 := b5 _ _ npD (s4 _ _ e1)
    refine ⟨_, e5, ?_, ?_, ?_⟩
    · rw [List.length_map, List.length_replicate]
      exact Nat.lt_of_lt_of_le hi (lz (by omega))
    · rw [List.replicate_succ', List.map_append]
      exact upd_same
    · intro c o e
      rw [upd_ne (ne_of_none e hD0)]
      exact b5 _ _ (ne_of_none (e2 _ _ e) hp) (s4 _ _ (e2 _ _ e))
  · rintro H3 ⟨e1, e2⟩
    refine ⟨D, _, rfl, SqL.of e1, ?_⟩
    rw [show (List.replicate (n : Int).toNat true).all id = true by simp]
    exact q _
end
end Lk
set_option Elab.async false
set_option linter.all false
/-! the classes of errors, from what the written part answers -/
namespace G
open PySem PySem.Spec PyProof.Rows L2
theorem inj_of {L : List Addr} {n : Nat} (nd : L.Nodup) (hn : L.length = n) {i j : Nat} (hi : i < n) (hj : j < n) (h : L.getD i 0 = L.getD j 0) : i = j := by
  have hi' : i < L.length := by omega
  have hj' : j < L.length := by omega
  have e1 : L.getD i 0 = L[i] := by simp [List.getD, hi']
  have e2 : L.getD j 0 = L[j] := by simp [List.getD, hj']
  rw [e1, e2] at h
  have pw := List.pairwise_iff_getElem.mp nd
  rcases Nat.lt_trichotomy i j with z | z | z
  · exact absurd h (pw i j hi' hj' z)
  · exact z
  · exact absurd h.symm (pw j i hj' hi' z)
structure Ci (K : PySem.W.Frag) (C W : Addr) (B newId : String) : Prop where
  lk : ∃ nm q N bs sn sub ab col dd k0 k1 k2 k3 k5, K.lookup C = some (excClassObj nm q C N bs (.ref W :: above B) true sn sub ab col dd k0 k1 k2 k3 k5 newId)
  sa : PySem.W.findIn K (.ref C) "__setattr__" = some (some (.builtin "object.__setattr__"))
  ga : PySem.W.findIn K (.ref C) "__getattribute__" = some (some (.builtin "BaseException.__getattribute__"))
  gg : PySem.W.findIn K (.ref C) "__getattr__" = some none
  kC : PySem.W.keepIn K (.ref C) = true
  hd : PySem.W.hasDictIn K C = true
  ha : PySem.W.findIn K (.ref C) "__class__" = some (some (.builtin "object.__class__"))
  ty : PySem.W.typeIn K (.ref C) = some (.type "type")
section
variable {K : PySem.W.Frag} {C W D : Addr} {B newId initId : String}
theorem Ci.sub (c : Ci K C W B newId) (base : Value) : PySem.W.subIn K (.ref C) base = some ((Value.ref C :: Value.ref W :: above B).contains base) := by
  obtain ⟨nm, q, N, bs, sn, sub, ab, col, dd, k0, k1, k2, k3, k5, e⟩ := c.lk
  show PySem.W.mroIn K C base = _
  unfold PySem.W.mroIn PySem.W.clsIn
  rw [e]
  rfl
theorem Ci.ic (c : Ci K C W B newId) : PySem.W.isClsIn K C = true := by
  obtain ⟨nm, q, N, bs, sn, sub, ab, col, dd, k0, k1, k2, k3, k5, e⟩ := c.lk
  unfold PySem.W.isClsIn PySem.W.clsIn
  rw [e]
  rfl
theorem Ci.xc (c : Ci K C W B newId) (R : Root B newId initId) (hn : PySem.W.specialIn K (.builtin "object.__class__") "__get__" = some (some (.builtin "getset_descriptor.__get__"))) (ht : PySem.W.takesIn K (.builtin "object.__class__") = some true)
    (hb : (above B).contains (.type "BaseException") = true) : Xc K C := by
  obtain ⟨nm, q, N, bs, sn, sub, ab, col, dd, k0, k1, k2, k3, k5, e⟩ := c.lk
  refine ⟨⟨B, newId, initId, R, nm, q, N, bs, sn, sub, ab, col, dd, k0, k1, k2, k3, k5, [W], e⟩, c.sa, c.ga, c.gg, ?_, c.kC, c.hd, c.ha, hn, ht, ?_⟩
  · rw [c.sub]
    exact congrArg some ((over_has (B := B) "BaseException" [C, W]).trans hb)
  · refine (c.sub (.type "object")).trans ?_
    exact congrArg some ((over_has (B := B) "object" [C, W]).trans R.obj)
theorem Ci.kit (c : Ci K C W B newId) {W2 : Addr} {B2 n2 : String} (c2 : Ci K D W2 B2 n2) (ne : C ≠ D) (nw : W ≠ D) : PySem.W.kitOne K (.ref C) (.ref D) = some false := by
  refine kit_ref c2.ic c2.ty (ref_ne ne) ?_
  rw [c.sub, List.contains_cons, List.contains_cons]
  have e1 : (Value.ref D == Value.ref C) = false := ref_ne (Ne.symm ne)
  have e2 : (Value.ref D == Value.ref W) = false := ref_ne (Ne.symm nw)
  rw [e1, e2]
  rfl
theorem Ci.kitW (c : Ci K C W B newId) (i1 : PySem.W.isClsIn K D = true) (i2 : PySem.W.typeIn K (.ref D) = some (.type "type")) (ne : C ≠ D) : PySem.W.kitOne K (.ref C) (.ref D) = some (decide (W = D)) := by
  refine kit_ref i1 i2 (ref_ne ne) ?_
  rw [c.sub, List.contains_cons, List.contains_cons]
  have e1 : (Value.ref D == Value.ref C) = false := ref_ne (Ne.symm ne)
  rw [e1]
  by_cases h : W = D
  · rw [h, decide_eq_true rfl]
    have : (Value.ref D == Value.ref D) = true := beq_iff_eq.mpr rfl
    rw [this]
    rfl
  · rw [ref_ne (Ne.symm h), decide_eq_false h]
    rfl
theorem Ci.kitT (c : Ci K C W B newId) {T : String} (hm : PySem.W.kitMeta T = true) : PySem.W.kitOne K (.ref C) (.type T) = some ((above B).contains (.type T)) := by
  have e : PySem.W.kitOne K (.ref C) (.type T) = if PySem.W.kitMeta T = true then PySem.W.subIn K (.ref C) (.type T) else none := by
    unfold PySem.W.kitOne
    rfl
  rw [e, if_pos hm, c.sub]
  exact congrArg some (over_has (B := B) T [C, W])
end
end G
set_option Elab.async false
set_option linter.all false
namespace Lk
open PySem PySem.Spec PyProof.Rows L2 G TL
theorem all_mk {l : PySem.W.OpenLaw} {w : World} {K : PySem.W.Frag} {h : Heap} {mg : Str → Option Value} {fa : Addr} (X : K.In h) (G : h.Ns mainGlobals mg) (hfa : mg "law" = some (.ref fa))
    {x0 : Addr} {nm0 qq0 : Str} {N0 : Addr} {bs0 : List Value} {sn0 : List Str} {sub0 : List Value} {ab0 : Bool} {col0 : Option Bool} {dd0 : Option Addr} {k0_0 k1_0 k2_0 k3_0 k5_0 : Option Value}
    {x1 : Addr} {nm1 qq1 : Str} {N1 : Addr} {bs1 : List Value} {sn1 : List Str} {sub1 : List Value} {ab1 : Bool} {col1 : Option Bool} {dd1 : Option Addr} {k0_1 k1_1 k2_1 k3_1 k5_1 : Option Value}
    {x2 : Addr} {nm2 qq2 : Str} {N2 : Addr} {bs2 : List Value} {sn2 : List Str} {sub2 : List Value} {ab2 : Bool} {col2 : Option Bool} {dd2 : Option Addr} {k0_2 k1_2 k2_2 k3_2 k5_2 : Option Value}
    {x3 : Addr} {nm3 qq3 : Str} {N3 : Addr} {bs3 : List Value} {sn3 : List Str} {sub3 : List Value} {ab3 : Bool} {col3 : Option Bool} {dd3 : Option Addr} {k0_3 k1_3 k2_3 k3_3 k5_3 : Option Value}
    {x4 : Addr} {nm4 qq4 : Str} {N4 : Addr} {bs4 : List Value} {sn4 : List Str} {sub4 : List Value} {ab4 : Bool} {col4 : Option Bool} {dd4 : Option Addr} {k0_4 k1_4 k2_4 k3_4 k5_4 : Option Value}
    {x5 : Addr} {nm5 qq5 : Str} {N5 : Addr} {bs5 : List Value} {sn5 : List Str} {sub5 : List Value} {ab5 : Bool} {col5 : Option Bool} {dd5 : Option Addr} {k0_5 k1_5 k2_5 k3_5 k5_5 : Option Value}
    {x6 : Addr} {nm6 qq6 : Str} {N6 : Addr} {bs6 : List Value} {sn6 : List Str} {sub6 : List Value} {ab6 : Bool} {col6 : Option Bool} {dd6 : Option Addr} {k0_6 k1_6 k2_6 k3_6 k5_6 : Option Value}
    {x7 : Addr} {nm7 qq7 : Str} {N7 : Addr} {bs7 : List Value} {sn7 : List Str} {sub7 : List Value} {ab7 : Bool} {col7 : Option Bool} {dd7 : Option Addr} {k0_7 k1_7 k2_7 k3_7 k5_7 : Option Value}
    {x8 : Addr} {nm8 qq8 : Str} {N8 : Addr} {bs8 : List Value} {sn8 : List Str} {sub8 : List Value} {ab8 : Bool} {col8 : Option Bool} {dd8 : Option Addr} {k0_8 k1_8 k2_8 k3_8 k5_8 : Option Value}
    {x9 : Addr} {nm9 qq9 : Str} {N9 : Addr} {bs9 : List Value} {sn9 : List Str} {sub9 : List Value} {ab9 : Bool} {col9 : Option Bool} {dd9 : Option Addr} {k0_9 k1_9 k2_9 k3_9 k5_9 : Option Value}
    {x10 : Addr} {nm10 qq10 : Str} {N10 : Addr} {bs10 : List Value} {sn10 : List Str} {sub10 : List Value} {ab10 : Bool} {col10 : Option Bool} {dd10 : Option Addr} {k0_10 k1_10 k2_10 k3_10 k5_10 : Option Value}
    {x11 : Addr} {nm11 qq11 : Str} {N11 : Addr} {bs11 : List Value} {sn11 : List Str} {sub11 : List Value} {ab11 : Bool} {col11 : Option Bool} {dd11 : Option Addr} {k0_11 k1_11 k2_11 k3_11 k5_11 : Option Value}
    {x12 : Addr} {nm12 qq12 : Str} {N12 : Addr} {bs12 : List Value} {sn12 : List Str} {sub12 : List Value} {ab12 : Bool} {col12 : Option Bool} {dd12 : Option Addr} {k0_12 k1_12 k2_12 k3_12 k5_12 : Option Value}
    {x13 : Addr} {nm13 qq13 : Str} {N13 : Addr} {bs13 : List Value} {sn13 : List Str} {sub13 : List Value} {ab13 : Bool} {col13 : Option Bool} {dd13 : Option Addr} {k0_13 k1_13 k2_13 k3_13 k5_13 : Option Value}
    {x14 : Addr} {nm14 qq14 : Str} {N14 : Addr} {bs14 : List Value} {sn14 : List Str} {sub14 : List Value} {ab14 : Bool} {col14 : Option Bool} {dd14 : Option Addr} {k0_14 k1_14 k2_14 k3_14 k5_14 : Option Value}
    {x15 : Addr} {nm15 qq15 : Str} {N15 : Addr} {bs15 : List Value} {sn15 : List Str} {sub15 : List Value} {ab15 : Bool} {col15 : Option Bool} {dd15 : Option Addr} {k0_15 k1_15 k2_15 k3_15 k5_15 : Option Value}
    {x16 : Addr} {nm16 qq16 : Str} {N16 : Addr} {bs16 : List Value} {sn16 : List Str} {sub16 : List Value} {ab16 : Bool} {col16 : Option Bool} {dd16 : Option Addr} {k0_16 k1_16 k2_16 k3_16 k5_16 : Option Value}
    {x17 : Addr} {nm17 qq17 : Str} {N17 : Addr} {bs17 : List Value} {sn17 : List Str} {sub17 : List Value} {ab17 : Bool} {col17 : Option Bool} {dd17 : Option Addr} {k0_17 k1_17 k2_17 k3_17 k5_17 : Option Value}
    {x18 : Addr} {nm18 qq18 : Str} {N18 : Addr} {bs18 : List Value} {sn18 : List Str} {sub18 : List Value} {ab18 : Bool} {col18 : Option Bool} {dd18 : Option Addr} {k0_18 k1_18 k2_18 k3_18 k5_18 : Option Value}
    {x19 : Addr} {nm19 qq19 : Str} {N19 : Addr} {bs19 : List Value} {sn19 : List Str} {sub19 : List Value} {ab19 : Bool} {col19 : Option Bool} {dd19 : Option Addr} {k0_19 k1_19 k2_19 k3_19 k5_19 : Option Value}
    {x20 : Addr} {nm20 qq20 : Str} {N20 : Addr} {bs20 : List Value} {sn20 : List Str} {sub20 : List Value} {ab20 : Bool} {col20 : Option Bool} {dd20 : Option Addr} {k0_20 k1_20 k2_20 k3_20 k5_20 : Option Value}
    {WV : Addr}
    {WM : Addr}
    {f0 : Addr} {od0 an0 : Option Addr} {sl0 : Array (Option Value)} {oc0 kV0 dc0 pm0 cd0 ct0 : Value}
    {f1 : Addr} {od1 an1 : Option Addr} {sl1 : Array (Option Value)} {oc1 kV1 dc1 pm1 cd1 ct1 : Value}
    {f2 : Addr} {od2 an2 : Option Addr} {sl2 : Array (Option Value)} {oc2 kV2 dc2 pm2 cd2 ct2 : Value}
    {f3 : Addr} {od3 an3 : Option Addr} {sl3 : Array (Option Value)} {oc3 kV3 dc3 pm3 cd3 ct3 : Value}
    {f4 : Addr} {od4 an4 : Option Addr} {sl4 : Array (Option Value)} {oc4 kV4 dc4 pm4 cd4 ct4 : Value}
    {f5 : Addr} {od5 an5 : Option Addr} {sl5 : Array (Option Value)} {oc5 kV5 dc5 pm5 cd5 ct5 : Value}
    {f6 : Addr} {od6 an6 : Option Addr} {sl6 : Array (Option Value)} {oc6 kV6 dc6 pm6 cd6 ct6 : Value}
    {f7 : Addr} {od7 an7 : Option Addr} {sl7 : Array (Option Value)} {oc7 kV7 dc7 pm7 cd7 ct7 : Value}
    {f8 : Addr} {od8 an8 : Option Addr} {sl8 : Array (Option Value)} {oc8 kV8 dc8 pm8 cd8 ct8 : Value}
    {f9 : Addr} {od9 an9 : Option Addr} {sl9 : Array (Option Value)} {oc9 kV9 dc9 pm9 cd9 ct9 : Value}
    {f10 : Addr} {od10 an10 : Option Addr} {sl10 : Array (Option Value)} {oc10 kV10 dc10 pm10 cd10 ct10 : Value}
    {f11 : Addr} {od11 an11 : Option Addr} {sl11 : Array (Option Value)} {oc11 kV11 dc11 pm11 cd11 ct11 : Value}
    {f12 : Addr} {od12 an12 : Option Addr} {sl12 : Array (Option Value)} {oc12 kV12 dc12 pm12 cd12 ct12 : Value}
    {f13 : Addr} {od13 an13 : Option Addr} {sl13 : Array (Option Value)} {oc13 kV13 dc13 pm13 cd13 ct13 : Value}
    {f14 : Addr} {od14 an14 : Option Addr} {sl14 : Array (Option Value)} {oc14 kV14 dc14 pm14 cd14 ct14 : Value}
    {f15 : Addr} {od15 an15 : Option Addr} {sl15 : Array (Option Value)} {oc15 kV15 dc15 pm15 cd15 ct15 : Value}
    {f16 : Addr} {od16 an16 : Option Addr} {sl16 : Array (Option Value)} {oc16 kV16 dc16 pm16 cd16 ct16 : Value}
    {f17 : Addr} {od17 an17 : Option Addr} {sl17 : Array (Option Value)} {oc17 kV17 dc17 pm17 cd17 ct17 : Value}
    {f18 : Addr} {od18 an18 : Option Addr} {sl18 : Array (Option Value)} {oc18 kV18 dc18 pm18 cd18 ct18 : Value}
    {f19 : Addr} {od19 an19 : Option Addr} {sl19 : Array (Option Value)} {oc19 kV19 dc19 pm19 cd19 ct19 : Value}
    {f20 : Addr} {od20 an20 : Option Addr} {sl20 : Array (Option Value)} {oc20 kV20 dc20 pm20 cd20 ct20 : Value}
    {f21 : Addr} {od21 an21 : Option Addr} {sl21 : Array (Option Value)} {oc21 kV21 dc21 pm21 cd21 ct21 : Value}
    {f22 : Addr} {od22 an22 : Option Addr} {sl22 : Array (Option Value)} {oc22 kV22 dc22 pm22 cd22 ct22 : Value}
    {f23 : Addr} {od23 an23 : Option Addr} {sl23 : Array (Option Value)} {oc23 kV23 dc23 pm23 cd23 ct23 : Value}
    {f24 : Addr} {od24 an24 : Option Addr} {sl24 : Array (Option Value)} {oc24 kV24 dc24 pm24 cd24 ct24 : Value}
    {f25 : Addr} {od25 an25 : Option Addr} {sl25 : Array (Option Value)} {oc25 kV25 dc25 pm25 cd25 ct25 : Value}
    {f26 : Addr} {od26 an26 : Option Addr} {sl26 : Array (Option Value)} {oc26 kV26 dc26 pm26 cd26 ct26 : Value}
    {f27 : Addr} {od27 an27 : Option Addr} {sl27 : Array (Option Value)} {oc27 kV27 dc27 pm27 cd27 ct27 : Value}
    {f28 : Addr} {od28 an28 : Option Addr} {sl28 : Array (Option Value)} {oc28 kV28 dc28 pm28 cd28 ct28 : Value}
    {f29 : Addr} {od29 an29 : Option Addr} {sl29 : Array (Option Value)} {oc29 kV29 dc29 pm29 cd29 ct29 : Value}
    {t_MOST_STEPS : _}
    {t_MOST_OFFSET : _}
    {t_MOST_DISTANCE : _}
    {t_MOST_LINES : _}
    {t_MOST_PLACES : _}
    {t_MOST_BOUND : _}
    {t_MOST_COUNT : _}
    (nWV : PySem.W.nsIn K mainGlobals "WrongValue" = some (some (.ref WV)))
    (icWV : PySem.W.isClsIn K WV = true)
    (tyWV : PySem.W.typeIn K (.ref WV) = some (.type "type"))
    (nWM : PySem.W.nsIn K mainGlobals "WrongMoment" = some (some (.ref WM)))
    (icWM : PySem.W.isClsIn K WM = true)
    (tyWM : PySem.W.typeIn K (.ref WM) = some (.type "type"))
    (n_0 : PySem.W.nsIn K mainGlobals "InvalidText" = some (some (.ref x0)))
    (lk_0 : K.lookup x0 = some (excClassObj nm0 qq0 x0 N0 bs0 (.ref WV :: above "ValueError") true sn0 sub0 ab0 col0 dd0 k0_0 k1_0 k2_0 k3_0 k5_0 "ValueError.__new__"))
    (sa_0 : PySem.W.findIn K (.ref x0) "__setattr__" = some (some (.builtin "object.__setattr__")))
    (ga_0 : PySem.W.findIn K (.ref x0) "__getattribute__" = some (some (.builtin "BaseException.__getattribute__")))
    (gg_0 : PySem.W.findIn K (.ref x0) "__getattr__" = some none)
    (kc_0 : PySem.W.keepIn K (.ref x0) = true)
    (hd_0 : PySem.W.hasDictIn K x0 = true)
    (ha_0 : PySem.W.findIn K (.ref x0) "__class__" = some (some (.builtin "object.__class__")))
    (tx_0 : PySem.W.typeIn K (.ref x0) = some (.type "type"))
    (f_0_given : PySem.W.findIn K (.ref x0) "given" = some none)
    (n_1 : PySem.W.nsIn K mainGlobals "InvalidNumber" = some (some (.ref x1)))
    (lk_1 : K.lookup x1 = some (excClassObj nm1 qq1 x1 N1 bs1 (.ref WV :: above "ValueError") true sn1 sub1 ab1 col1 dd1 k0_1 k1_1 k2_1 k3_1 k5_1 "ValueError.__new__"))
    (sa_1 : PySem.W.findIn K (.ref x1) "__setattr__" = some (some (.builtin "object.__setattr__")))
    (ga_1 : PySem.W.findIn K (.ref x1) "__getattribute__" = some (some (.builtin "BaseException.__getattribute__")))
    (gg_1 : PySem.W.findIn K (.ref x1) "__getattr__" = some none)
    (kc_1 : PySem.W.keepIn K (.ref x1) = true)
    (hd_1 : PySem.W.hasDictIn K x1 = true)
    (ha_1 : PySem.W.findIn K (.ref x1) "__class__" = some (some (.builtin "object.__class__")))
    (tx_1 : PySem.W.typeIn K (.ref x1) = some (.type "type"))
    (f_1_given : PySem.W.findIn K (.ref x1) "given" = some none)
    (n_2 : PySem.W.nsIn K mainGlobals "InvalidArray" = some (some (.ref x2)))
    (lk_2 : K.lookup x2 = some (excClassObj nm2 qq2 x2 N2 bs2 (.ref WV :: above "ValueError") true sn2 sub2 ab2 col2 dd2 k0_2 k1_2 k2_2 k3_2 k5_2 "ValueError.__new__"))
    (sa_2 : PySem.W.findIn K (.ref x2) "__setattr__" = some (some (.builtin "object.__setattr__")))
    (ga_2 : PySem.W.findIn K (.ref x2) "__getattribute__" = some (some (.builtin "BaseException.__getattribute__")))
    (gg_2 : PySem.W.findIn K (.ref x2) "__getattr__" = some none)
    (kc_2 : PySem.W.keepIn K (.ref x2) = true)
    (hd_2 : PySem.W.hasDictIn K x2 = true)
    (ha_2 : PySem.W.findIn K (.ref x2) "__class__" = some (some (.builtin "object.__class__")))
    (tx_2 : PySem.W.typeIn K (.ref x2) = some (.type "type"))
    (f_2_given : PySem.W.findIn K (.ref x2) "given" = some none)
    (n_3 : PySem.W.nsIn K mainGlobals "InvalidCost" = some (some (.ref x3)))
    (lk_3 : K.lookup x3 = some (excClassObj nm3 qq3 x3 N3 bs3 (.ref WV :: above "ValueError") true sn3 sub3 ab3 col3 dd3 k0_3 k1_3 k2_3 k3_3 k5_3 "ValueError.__new__"))
    (sa_3 : PySem.W.findIn K (.ref x3) "__setattr__" = some (some (.builtin "object.__setattr__")))
    (ga_3 : PySem.W.findIn K (.ref x3) "__getattribute__" = some (some (.builtin "BaseException.__getattribute__")))
    (gg_3 : PySem.W.findIn K (.ref x3) "__getattr__" = some none)
    (kc_3 : PySem.W.keepIn K (.ref x3) = true)
    (hd_3 : PySem.W.hasDictIn K x3 = true)
    (ha_3 : PySem.W.findIn K (.ref x3) "__class__" = some (some (.builtin "object.__class__")))
    (tx_3 : PySem.W.typeIn K (.ref x3) = some (.type "type"))
    (f_3_given : PySem.W.findIn K (.ref x3) "given" = some none)
    (n_4 : PySem.W.nsIn K mainGlobals "InvalidName" = some (some (.ref x4)))
    (lk_4 : K.lookup x4 = some (excClassObj nm4 qq4 x4 N4 bs4 (.ref WV :: above "ValueError") true sn4 sub4 ab4 col4 dd4 k0_4 k1_4 k2_4 k3_4 k5_4 "ValueError.__new__"))
    (sa_4 : PySem.W.findIn K (.ref x4) "__setattr__" = some (some (.builtin "object.__setattr__")))
    (ga_4 : PySem.W.findIn K (.ref x4) "__getattribute__" = some (some (.builtin "BaseException.__getattribute__")))
    (gg_4 : PySem.W.findIn K (.ref x4) "__getattr__" = some none)
    (kc_4 : PySem.W.keepIn K (.ref x4) = true)
    (hd_4 : PySem.W.hasDictIn K x4 = true)
    (ha_4 : PySem.W.findIn K (.ref x4) "__class__" = some (some (.builtin "object.__class__")))
    (tx_4 : PySem.W.typeIn K (.ref x4) = some (.type "type"))
    (f_4_given : PySem.W.findIn K (.ref x4) "given" = some none)
    (n_5 : PySem.W.nsIn K mainGlobals "InvalidWish" = some (some (.ref x5)))
    (lk_5 : K.lookup x5 = some (excClassObj nm5 qq5 x5 N5 bs5 (.ref WV :: above "ValueError") true sn5 sub5 ab5 col5 dd5 k0_5 k1_5 k2_5 k3_5 k5_5 "ValueError.__new__"))
    (sa_5 : PySem.W.findIn K (.ref x5) "__setattr__" = some (some (.builtin "object.__setattr__")))
    (ga_5 : PySem.W.findIn K (.ref x5) "__getattribute__" = some (some (.builtin "BaseException.__getattribute__")))
    (gg_5 : PySem.W.findIn K (.ref x5) "__getattr__" = some none)
    (kc_5 : PySem.W.keepIn K (.ref x5) = true)
    (hd_5 : PySem.W.hasDictIn K x5 = true)
    (ha_5 : PySem.W.findIn K (.ref x5) "__class__" = some (some (.builtin "object.__class__")))
    (tx_5 : PySem.W.typeIn K (.ref x5) = some (.type "type"))
    (f_5_given : PySem.W.findIn K (.ref x5) "given" = some none)
    (n_6 : PySem.W.nsIn K mainGlobals "NotALoop" = some (some (.ref x6)))
    (lk_6 : K.lookup x6 = some (excClassObj nm6 qq6 x6 N6 bs6 (.ref WV :: above "ValueError") true sn6 sub6 ab6 col6 dd6 k0_6 k1_6 k2_6 k3_6 k5_6 "ValueError.__new__"))
    (sa_6 : PySem.W.findIn K (.ref x6) "__setattr__" = some (some (.builtin "object.__setattr__")))
    (ga_6 : PySem.W.findIn K (.ref x6) "__getattribute__" = some (some (.builtin "BaseException.__getattribute__")))
    (gg_6 : PySem.W.findIn K (.ref x6) "__getattr__" = some none)
    (kc_6 : PySem.W.keepIn K (.ref x6) = true)
    (hd_6 : PySem.W.hasDictIn K x6 = true)
    (ha_6 : PySem.W.findIn K (.ref x6) "__class__" = some (some (.builtin "object.__class__")))
    (tx_6 : PySem.W.typeIn K (.ref x6) = some (.type "type"))
    (f_6_given : PySem.W.findIn K (.ref x6) "given" = some none)
    (n_7 : PySem.W.nsIn K mainGlobals "NotAProgram" = some (some (.ref x7)))
    (lk_7 : K.lookup x7 = some (excClassObj nm7 qq7 x7 N7 bs7 (.ref WV :: above "ValueError") true sn7 sub7 ab7 col7 dd7 k0_7 k1_7 k2_7 k3_7 k5_7 "ValueError.__new__"))
    (sa_7 : PySem.W.findIn K (.ref x7) "__setattr__" = some (some (.builtin "object.__setattr__")))
    (ga_7 : PySem.W.findIn K (.ref x7) "__getattribute__" = some (some (.builtin "BaseException.__getattribute__")))
    (gg_7 : PySem.W.findIn K (.ref x7) "__getattr__" = some none)
    (kc_7 : PySem.W.keepIn K (.ref x7) = true)
    (hd_7 : PySem.W.hasDictIn K x7 = true)
    (ha_7 : PySem.W.findIn K (.ref x7) "__class__" = some (some (.builtin "object.__class__")))
    (tx_7 : PySem.W.typeIn K (.ref x7) = some (.type "type"))
    (f_7_given : PySem.W.findIn K (.ref x7) "given" = some none)
    (n_8 : PySem.W.nsIn K mainGlobals "NotAWorld" = some (some (.ref x8)))
    (lk_8 : K.lookup x8 = some (excClassObj nm8 qq8 x8 N8 bs8 (.ref WV :: above "ValueError") true sn8 sub8 ab8 col8 dd8 k0_8 k1_8 k2_8 k3_8 k5_8 "ValueError.__new__"))
    (sa_8 : PySem.W.findIn K (.ref x8) "__setattr__" = some (some (.builtin "object.__setattr__")))
    (ga_8 : PySem.W.findIn K (.ref x8) "__getattribute__" = some (some (.builtin "BaseException.__getattribute__")))
    (gg_8 : PySem.W.findIn K (.ref x8) "__getattr__" = some none)
    (kc_8 : PySem.W.keepIn K (.ref x8) = true)
    (hd_8 : PySem.W.hasDictIn K x8 = true)
    (ha_8 : PySem.W.findIn K (.ref x8) "__class__" = some (some (.builtin "object.__class__")))
    (tx_8 : PySem.W.typeIn K (.ref x8) = some (.type "type"))
    (f_8_given : PySem.W.findIn K (.ref x8) "given" = some none)
    (n_9 : PySem.W.nsIn K mainGlobals "NotACounts" = some (some (.ref x9)))
    (lk_9 : K.lookup x9 = some (excClassObj nm9 qq9 x9 N9 bs9 (.ref WV :: above "ValueError") true sn9 sub9 ab9 col9 dd9 k0_9 k1_9 k2_9 k3_9 k5_9 "ValueError.__new__"))
    (sa_9 : PySem.W.findIn K (.ref x9) "__setattr__" = some (some (.builtin "object.__setattr__")))
    (ga_9 : PySem.W.findIn K (.ref x9) "__getattribute__" = some (some (.builtin "BaseException.__getattribute__")))
    (gg_9 : PySem.W.findIn K (.ref x9) "__getattr__" = some none)
    (kc_9 : PySem.W.keepIn K (.ref x9) = true)
    (hd_9 : PySem.W.hasDictIn K x9 = true)
    (ha_9 : PySem.W.findIn K (.ref x9) "__class__" = some (some (.builtin "object.__class__")))
    (tx_9 : PySem.W.typeIn K (.ref x9) = some (.type "type"))
    (f_9_given : PySem.W.findIn K (.ref x9) "given" = some none)
    (n_10 : PySem.W.nsIn K mainGlobals "NotAForm" = some (some (.ref x10)))
    (lk_10 : K.lookup x10 = some (excClassObj nm10 qq10 x10 N10 bs10 (.ref WV :: above "ValueError") true sn10 sub10 ab10 col10 dd10 k0_10 k1_10 k2_10 k3_10 k5_10 "ValueError.__new__"))
    (sa_10 : PySem.W.findIn K (.ref x10) "__setattr__" = some (some (.builtin "object.__setattr__")))
    (ga_10 : PySem.W.findIn K (.ref x10) "__getattribute__" = some (some (.builtin "BaseException.__getattribute__")))
    (gg_10 : PySem.W.findIn K (.ref x10) "__getattr__" = some none)
    (kc_10 : PySem.W.keepIn K (.ref x10) = true)
    (hd_10 : PySem.W.hasDictIn K x10 = true)
    (ha_10 : PySem.W.findIn K (.ref x10) "__class__" = some (some (.builtin "object.__class__")))
    (tx_10 : PySem.W.typeIn K (.ref x10) = some (.type "type"))
    (f_10_given : PySem.W.findIn K (.ref x10) "given" = some none)
    (n_11 : PySem.W.nsIn K mainGlobals "NotCosts" = some (some (.ref x11)))
    (lk_11 : K.lookup x11 = some (excClassObj nm11 qq11 x11 N11 bs11 (.ref WV :: above "ValueError") true sn11 sub11 ab11 col11 dd11 k0_11 k1_11 k2_11 k3_11 k5_11 "ValueError.__new__"))
    (sa_11 : PySem.W.findIn K (.ref x11) "__setattr__" = some (some (.builtin "object.__setattr__")))
    (ga_11 : PySem.W.findIn K (.ref x11) "__getattribute__" = some (some (.builtin "BaseException.__getattribute__")))
    (gg_11 : PySem.W.findIn K (.ref x11) "__getattr__" = some none)
    (kc_11 : PySem.W.keepIn K (.ref x11) = true)
    (hd_11 : PySem.W.hasDictIn K x11 = true)
    (ha_11 : PySem.W.findIn K (.ref x11) "__class__" = some (some (.builtin "object.__class__")))
    (tx_11 : PySem.W.typeIn K (.ref x11) = some (.type "type"))
    (f_11_given : PySem.W.findIn K (.ref x11) "given" = some none)
    (n_12 : PySem.W.nsIn K mainGlobals "UnknownInput" = some (some (.ref x12)))
    (lk_12 : K.lookup x12 = some (excClassObj nm12 qq12 x12 N12 bs12 (.ref WM :: above "LookupError") true sn12 sub12 ab12 col12 dd12 k0_12 k1_12 k2_12 k3_12 k5_12 "LookupError.__new__"))
    (sa_12 : PySem.W.findIn K (.ref x12) "__setattr__" = some (some (.builtin "object.__setattr__")))
    (ga_12 : PySem.W.findIn K (.ref x12) "__getattribute__" = some (some (.builtin "BaseException.__getattribute__")))
    (gg_12 : PySem.W.findIn K (.ref x12) "__getattr__" = some none)
    (kc_12 : PySem.W.keepIn K (.ref x12) = true)
    (hd_12 : PySem.W.hasDictIn K x12 = true)
    (ha_12 : PySem.W.findIn K (.ref x12) "__class__" = some (some (.builtin "object.__class__")))
    (tx_12 : PySem.W.typeIn K (.ref x12) = some (.type "type"))
    (f_12_given : PySem.W.findIn K (.ref x12) "given" = some none)
    (n_13 : PySem.W.nsIn K mainGlobals "OtherWords" = some (some (.ref x13)))
    (lk_13 : K.lookup x13 = some (excClassObj nm13 qq13 x13 N13 bs13 (.ref WM :: above "LookupError") true sn13 sub13 ab13 col13 dd13 k0_13 k1_13 k2_13 k3_13 k5_13 "LookupError.__new__"))
    (sa_13 : PySem.W.findIn K (.ref x13) "__setattr__" = some (some (.builtin "object.__setattr__")))
    (ga_13 : PySem.W.findIn K (.ref x13) "__getattribute__" = some (some (.builtin "BaseException.__getattribute__")))
    (gg_13 : PySem.W.findIn K (.ref x13) "__getattr__" = some none)
    (kc_13 : PySem.W.keepIn K (.ref x13) = true)
    (hd_13 : PySem.W.hasDictIn K x13 = true)
    (ha_13 : PySem.W.findIn K (.ref x13) "__class__" = some (some (.builtin "object.__class__")))
    (tx_13 : PySem.W.typeIn K (.ref x13) = some (.type "type"))
    (f_13_given : PySem.W.findIn K (.ref x13) "given" = some none)
    (n_14 : PySem.W.nsIn K mainGlobals "OtherOuts" = some (some (.ref x14)))
    (lk_14 : K.lookup x14 = some (excClassObj nm14 qq14 x14 N14 bs14 (.ref WM :: above "LookupError") true sn14 sub14 ab14 col14 dd14 k0_14 k1_14 k2_14 k3_14 k5_14 "LookupError.__new__"))
    (sa_14 : PySem.W.findIn K (.ref x14) "__setattr__" = some (some (.builtin "object.__setattr__")))
    (ga_14 : PySem.W.findIn K (.ref x14) "__getattribute__" = some (some (.builtin "BaseException.__getattribute__")))
    (gg_14 : PySem.W.findIn K (.ref x14) "__getattr__" = some none)
    (kc_14 : PySem.W.keepIn K (.ref x14) = true)
    (hd_14 : PySem.W.hasDictIn K x14 = true)
    (ha_14 : PySem.W.findIn K (.ref x14) "__class__" = some (some (.builtin "object.__class__")))
    (tx_14 : PySem.W.typeIn K (.ref x14) = some (.type "type"))
    (f_14_given : PySem.W.findIn K (.ref x14) "given" = some none)
    (n_15 : PySem.W.nsIn K mainGlobals "TooFar" = some (some (.ref x15)))
    (lk_15 : K.lookup x15 = some (excClassObj nm15 qq15 x15 N15 bs15 (.ref WM :: above "LookupError") true sn15 sub15 ab15 col15 dd15 k0_15 k1_15 k2_15 k3_15 k5_15 "LookupError.__new__"))
    (sa_15 : PySem.W.findIn K (.ref x15) "__setattr__" = some (some (.builtin "object.__setattr__")))
    (ga_15 : PySem.W.findIn K (.ref x15) "__getattribute__" = some (some (.builtin "BaseException.__getattribute__")))
    (gg_15 : PySem.W.findIn K (.ref x15) "__getattr__" = some none)
    (kc_15 : PySem.W.keepIn K (.ref x15) = true)
    (hd_15 : PySem.W.hasDictIn K x15 = true)
    (ha_15 : PySem.W.findIn K (.ref x15) "__class__" = some (some (.builtin "object.__class__")))
    (tx_15 : PySem.W.typeIn K (.ref x15) = some (.type "type"))
    (f_15_given : PySem.W.findIn K (.ref x15) "given" = some none)
    (n_16 : PySem.W.nsIn K mainGlobals "UnknownName" = some (some (.ref x16)))
    (lk_16 : K.lookup x16 = some (excClassObj nm16 qq16 x16 N16 bs16 (.ref WM :: above "LookupError") true sn16 sub16 ab16 col16 dd16 k0_16 k1_16 k2_16 k3_16 k5_16 "LookupError.__new__"))
    (sa_16 : PySem.W.findIn K (.ref x16) "__setattr__" = some (some (.builtin "object.__setattr__")))
    (ga_16 : PySem.W.findIn K (.ref x16) "__getattribute__" = some (some (.builtin "BaseException.__getattribute__")))
    (gg_16 : PySem.W.findIn K (.ref x16) "__getattr__" = some none)
    (kc_16 : PySem.W.keepIn K (.ref x16) = true)
    (hd_16 : PySem.W.hasDictIn K x16 = true)
    (ha_16 : PySem.W.findIn K (.ref x16) "__class__" = some (some (.builtin "object.__class__")))
    (tx_16 : PySem.W.typeIn K (.ref x16) = some (.type "type"))
    (f_16_given : PySem.W.findIn K (.ref x16) "given" = some none)
    (n_17 : PySem.W.nsIn K mainGlobals "InUse" = some (some (.ref x17)))
    (lk_17 : K.lookup x17 = some (excClassObj nm17 qq17 x17 N17 bs17 (.ref WM :: above "LookupError") true sn17 sub17 ab17 col17 dd17 k0_17 k1_17 k2_17 k3_17 k5_17 "LookupError.__new__"))
    (sa_17 : PySem.W.findIn K (.ref x17) "__setattr__" = some (some (.builtin "object.__setattr__")))
    (ga_17 : PySem.W.findIn K (.ref x17) "__getattribute__" = some (some (.builtin "BaseException.__getattribute__")))
    (gg_17 : PySem.W.findIn K (.ref x17) "__getattr__" = some none)
    (kc_17 : PySem.W.keepIn K (.ref x17) = true)
    (hd_17 : PySem.W.hasDictIn K x17 = true)
    (ha_17 : PySem.W.findIn K (.ref x17) "__class__" = some (some (.builtin "object.__class__")))
    (tx_17 : PySem.W.typeIn K (.ref x17) = some (.type "type"))
    (f_17_index : PySem.W.findIn K (.ref x17) "index" = some none)
    (n_18 : PySem.W.nsIn K mainGlobals "NotRight" = some (some (.ref x18)))
    (lk_18 : K.lookup x18 = some (excClassObj nm18 qq18 x18 N18 bs18 (.ref WM :: above "LookupError") true sn18 sub18 ab18 col18 dd18 k0_18 k1_18 k2_18 k3_18 k5_18 "LookupError.__new__"))
    (sa_18 : PySem.W.findIn K (.ref x18) "__setattr__" = some (some (.builtin "object.__setattr__")))
    (ga_18 : PySem.W.findIn K (.ref x18) "__getattribute__" = some (some (.builtin "BaseException.__getattribute__")))
    (gg_18 : PySem.W.findIn K (.ref x18) "__getattr__" = some none)
    (kc_18 : PySem.W.keepIn K (.ref x18) = true)
    (hd_18 : PySem.W.hasDictIn K x18 = true)
    (ha_18 : PySem.W.findIn K (.ref x18) "__class__" = some (some (.builtin "object.__class__")))
    (tx_18 : PySem.W.typeIn K (.ref x18) = some (.type "type"))
    (f_18_count : PySem.W.findIn K (.ref x18) "count" = some none)
    (f_18_where : PySem.W.findIn K (.ref x18) "where" = some none)
    (n_19 : PySem.W.nsIn K mainGlobals "NothingToUndo" = some (some (.ref x19)))
    (lk_19 : K.lookup x19 = some (excClassObj nm19 qq19 x19 N19 bs19 (.ref WM :: above "LookupError") true sn19 sub19 ab19 col19 dd19 k0_19 k1_19 k2_19 k3_19 k5_19 "LookupError.__new__"))
    (sa_19 : PySem.W.findIn K (.ref x19) "__setattr__" = some (some (.builtin "object.__setattr__")))
    (ga_19 : PySem.W.findIn K (.ref x19) "__getattribute__" = some (some (.builtin "BaseException.__getattribute__")))
    (gg_19 : PySem.W.findIn K (.ref x19) "__getattr__" = some none)
    (kc_19 : PySem.W.keepIn K (.ref x19) = true)
    (hd_19 : PySem.W.hasDictIn K x19 = true)
    (ha_19 : PySem.W.findIn K (.ref x19) "__class__" = some (some (.builtin "object.__class__")))
    (tx_19 : PySem.W.typeIn K (.ref x19) = some (.type "type"))
    (n_20 : PySem.W.nsIn K mainGlobals "NotKept" = some (some (.ref x20)))
    (lk_20 : K.lookup x20 = some (excClassObj nm20 qq20 x20 N20 bs20 (.ref WM :: above "LookupError") true sn20 sub20 ab20 col20 dd20 k0_20 k1_20 k2_20 k3_20 k5_20 "LookupError.__new__"))
    (sa_20 : PySem.W.findIn K (.ref x20) "__setattr__" = some (some (.builtin "object.__setattr__")))
    (ga_20 : PySem.W.findIn K (.ref x20) "__getattribute__" = some (some (.builtin "BaseException.__getattribute__")))
    (gg_20 : PySem.W.findIn K (.ref x20) "__getattr__" = some none)
    (kc_20 : PySem.W.keepIn K (.ref x20) = true)
    (hd_20 : PySem.W.hasDictIn K x20 = true)
    (ha_20 : PySem.W.findIn K (.ref x20) "__class__" = some (some (.builtin "object.__class__")))
    (tx_20 : PySem.W.typeIn K (.ref x20) = some (.type "type"))
    (f_20_index : PySem.W.findIn K (.ref x20) "index" = some none)
    (f_20_shown : PySem.W.findIn K (.ref x20) "shown" = some none)
    (a0 : PySem.W.nsIn K mainGlobals "_law_purse" = some (some (.ref f0)))
    (l0 : K.lookup f0 = some ⟨oc0, od0, .func (PySem.W.fnOf "_law_purse" "_law_purse" (defArgs s__law_purse) (defBody s__law_purse) (defScope s__law_purse) .none kV0 dc0 pm0 an0 cd0 ct0), sl0⟩)
    (c0 : PySem.W.codeIn K cd0 "_law_purse" = true)
    (k0 : PySem.W.keepIn K (.ref f0) = true)
    (a1 : PySem.W.nsIn K mainGlobals "_law_draw" = some (some (.ref f1)))
    (l1 : K.lookup f1 = some ⟨oc1, od1, .func (PySem.W.fnOf "_law_draw" "_law_draw" (defArgs s__law_draw) (defBody s__law_draw) (defScope s__law_draw) .none kV1 dc1 pm1 an1 cd1 ct1), sl1⟩)
    (c1 : PySem.W.codeIn K cd1 "_law_draw" = true)
    (k1 : PySem.W.keepIn K (.ref f1) = true)
    (a2 : PySem.W.nsIn K mainGlobals "_law_signs" = some (some (.ref f2)))
    (l2 : K.lookup f2 = some ⟨oc2, od2, .func (PySem.W.fnOf "_law_signs" "_law_signs" (defArgs s__law_signs) (defBody s__law_signs) (defScope s__law_signs) .none kV2 dc2 pm2 an2 cd2 ct2), sl2⟩)
    (c2 : PySem.W.codeIn K cd2 "_law_signs" = true)
    (k2 : PySem.W.keepIn K (.ref f2) = true)
    (a3 : PySem.W.nsIn K mainGlobals "_law_sort" = some (some (.ref f3)))
    (l3 : K.lookup f3 = some ⟨oc3, od3, .func (PySem.W.fnOf "_law_sort" "_law_sort" (defArgs s__law_sort) (defBody s__law_sort) (defScope s__law_sort) .none kV3 dc3 pm3 an3 cd3 ct3), sl3⟩)
    (c3 : PySem.W.codeIn K cd3 "_law_sort" = true)
    (k3 : PySem.W.keepIn K (.ref f3) = true)
    (a4 : PySem.W.nsIn K mainGlobals "_law_value" = some (some (.ref f4)))
    (l4 : K.lookup f4 = some ⟨oc4, od4, .func (PySem.W.fnOf "_law_value" "_law_value" (defArgs s__law_value) (defBody s__law_value) (defScope s__law_value) .none kV4 dc4 pm4 an4 cd4 ct4), sl4⟩)
    (c4 : PySem.W.codeIn K cd4 "_law_value" = true)
    (k4 : PySem.W.keepIn K (.ref f4) = true)
    (a5 : PySem.W.nsIn K mainGlobals "_law_by_place" = some (some (.ref f5)))
    (l5 : K.lookup f5 = some ⟨oc5, od5, .func (PySem.W.fnOf "_law_by_place" "_law_by_place" (defArgs s__law_by_place) (defBody s__law_by_place) (defScope s__law_by_place) .none kV5 dc5 pm5 an5 cd5 ct5), sl5⟩)
    (c5 : PySem.W.codeIn K cd5 "_law_by_place" = true)
    (k5 : PySem.W.keepIn K (.ref f5) = true)
    (a6 : PySem.W.nsIn K mainGlobals "_law_by_name" = some (some (.ref f6)))
    (l6 : K.lookup f6 = some ⟨oc6, od6, .func (PySem.W.fnOf "_law_by_name" "_law_by_name" (defArgs s__law_by_name) (defBody s__law_by_name) (defScope s__law_by_name) .none kV6 dc6 pm6 an6 cd6 ct6), sl6⟩)
    (c6 : PySem.W.codeIn K cd6 "_law_by_name" = true)
    (k6 : PySem.W.keepIn K (.ref f6) = true)
    (a7 : PySem.W.nsIn K mainGlobals "_law_keeps" = some (some (.ref f7)))
    (l7 : K.lookup f7 = some ⟨oc7, od7, .func (PySem.W.fnOf "_law_keeps" "_law_keeps" (defArgs s__law_keeps) (defBody s__law_keeps) (defScope s__law_keeps) .none kV7 dc7 pm7 an7 cd7 ct7), sl7⟩)
    (c7 : PySem.W.codeIn K cd7 "_law_keeps" = true)
    (k7 : PySem.W.keepIn K (.ref f7) = true)
    (a8 : PySem.W.nsIn K mainGlobals "_law_right" = some (some (.ref f8)))
    (l8 : K.lookup f8 = some ⟨oc8, od8, .func (PySem.W.fnOf "_law_right" "_law_right" (defArgs s__law_right) (defBody s__law_right) (defScope s__law_right) .none kV8 dc8 pm8 an8 cd8 ct8), sl8⟩)
    (c8 : PySem.W.codeIn K cd8 "_law_right" = true)
    (k8 : PySem.W.keepIn K (.ref f8) = true)
    (a9 : PySem.W.nsIn K mainGlobals "law" = some (some (.ref f9)))
    (l9 : K.lookup f9 = some ⟨oc9, od9, .func (PySem.W.fnOf "law" "law" (defArgs s_law) (defBody s_law) (defScope s_law) .none kV9 dc9 pm9 an9 cd9 ct9), sl9⟩)
    (c9 : PySem.W.codeIn K cd9 "law" = true)
    (k9 : PySem.W.keepIn K (.ref f9) = true)
    (a10 : PySem.W.findIn K (.ref x0) "__init__" = some (some (.ref f10)))
    (i10 : PySem.W.isFn K (.ref f10) = true)
    (l10 : K.lookup f10 = some ⟨oc10, od10, .func (PySem.W.fnOf "__init__" "InvalidText.__init__" (defArgs s_InvalidText____init__) (defBody s_InvalidText____init__) (defScope s_InvalidText____init__) .none kV10 dc10 pm10 an10 cd10 ct10), sl10⟩)
    (c10 : PySem.W.codeIn K cd10 "InvalidText.__init__" = true)
    (k10 : PySem.W.keepIn K (.ref f10) = true)
    (a11 : PySem.W.findIn K (.ref x1) "__init__" = some (some (.ref f11)))
    (i11 : PySem.W.isFn K (.ref f11) = true)
    (l11 : K.lookup f11 = some ⟨oc11, od11, .func (PySem.W.fnOf "__init__" "InvalidNumber.__init__" (defArgs s_InvalidNumber____init__) (defBody s_InvalidNumber____init__) (defScope s_InvalidNumber____init__) .none kV11 dc11 pm11 an11 cd11 ct11), sl11⟩)
    (c11 : PySem.W.codeIn K cd11 "InvalidNumber.__init__" = true)
    (k11 : PySem.W.keepIn K (.ref f11) = true)
    (a12 : PySem.W.findIn K (.ref x2) "__init__" = some (some (.ref f12)))
    (i12 : PySem.W.isFn K (.ref f12) = true)
    (l12 : K.lookup f12 = some ⟨oc12, od12, .func (PySem.W.fnOf "__init__" "InvalidArray.__init__" (defArgs s_InvalidArray____init__) (defBody s_InvalidArray____init__) (defScope s_InvalidArray____init__) .none kV12 dc12 pm12 an12 cd12 ct12), sl12⟩)
    (c12 : PySem.W.codeIn K cd12 "InvalidArray.__init__" = true)
    (k12 : PySem.W.keepIn K (.ref f12) = true)
    (a13 : PySem.W.findIn K (.ref x3) "__init__" = some (some (.ref f13)))
    (i13 : PySem.W.isFn K (.ref f13) = true)
    (l13 : K.lookup f13 = some ⟨oc13, od13, .func (PySem.W.fnOf "__init__" "InvalidCost.__init__" (defArgs s_InvalidCost____init__) (defBody s_InvalidCost____init__) (defScope s_InvalidCost____init__) .none kV13 dc13 pm13 an13 cd13 ct13), sl13⟩)
    (c13 : PySem.W.codeIn K cd13 "InvalidCost.__init__" = true)
    (k13 : PySem.W.keepIn K (.ref f13) = true)
    (a14 : PySem.W.findIn K (.ref x4) "__init__" = some (some (.ref f14)))
    (i14 : PySem.W.isFn K (.ref f14) = true)
    (l14 : K.lookup f14 = some ⟨oc14, od14, .func (PySem.W.fnOf "__init__" "InvalidName.__init__" (defArgs s_InvalidName____init__) (defBody s_InvalidName____init__) (defScope s_InvalidName____init__) .none kV14 dc14 pm14 an14 cd14 ct14), sl14⟩)
    (c14 : PySem.W.codeIn K cd14 "InvalidName.__init__" = true)
    (k14 : PySem.W.keepIn K (.ref f14) = true)
    (a15 : PySem.W.findIn K (.ref x5) "__init__" = some (some (.ref f15)))
    (i15 : PySem.W.isFn K (.ref f15) = true)
    (l15 : K.lookup f15 = some ⟨oc15, od15, .func (PySem.W.fnOf "__init__" "InvalidWish.__init__" (defArgs s_InvalidWish____init__) (defBody s_InvalidWish____init__) (defScope s_InvalidWish____init__) .none kV15 dc15 pm15 an15 cd15 ct15), sl15⟩)
    (c15 : PySem.W.codeIn K cd15 "InvalidWish.__init__" = true)
    (k15 : PySem.W.keepIn K (.ref f15) = true)
    (a16 : PySem.W.findIn K (.ref x6) "__init__" = some (some (.ref f16)))
    (i16 : PySem.W.isFn K (.ref f16) = true)
    (l16 : K.lookup f16 = some ⟨oc16, od16, .func (PySem.W.fnOf "__init__" "NotALoop.__init__" (defArgs s_NotALoop____init__) (defBody s_NotALoop____init__) (defScope s_NotALoop____init__) .none kV16 dc16 pm16 an16 cd16 ct16), sl16⟩)
    (c16 : PySem.W.codeIn K cd16 "NotALoop.__init__" = true)
    (k16 : PySem.W.keepIn K (.ref f16) = true)
    (a17 : PySem.W.findIn K (.ref x7) "__init__" = some (some (.ref f17)))
    (i17 : PySem.W.isFn K (.ref f17) = true)
    (l17 : K.lookup f17 = some ⟨oc17, od17, .func (PySem.W.fnOf "__init__" "NotAProgram.__init__" (defArgs s_NotAProgram____init__) (defBody s_NotAProgram____init__) (defScope s_NotAProgram____init__) .none kV17 dc17 pm17 an17 cd17 ct17), sl17⟩)
    (c17 : PySem.W.codeIn K cd17 "NotAProgram.__init__" = true)
    (k17 : PySem.W.keepIn K (.ref f17) = true)
    (a18 : PySem.W.findIn K (.ref x8) "__init__" = some (some (.ref f18)))
    (i18 : PySem.W.isFn K (.ref f18) = true)
    (l18 : K.lookup f18 = some ⟨oc18, od18, .func (PySem.W.fnOf "__init__" "NotAWorld.__init__" (defArgs s_NotAWorld____init__) (defBody s_NotAWorld____init__) (defScope s_NotAWorld____init__) .none kV18 dc18 pm18 an18 cd18 ct18), sl18⟩)
    (c18 : PySem.W.codeIn K cd18 "NotAWorld.__init__" = true)
    (k18 : PySem.W.keepIn K (.ref f18) = true)
    (a19 : PySem.W.findIn K (.ref x9) "__init__" = some (some (.ref f19)))
    (i19 : PySem.W.isFn K (.ref f19) = true)
    (l19 : K.lookup f19 = some ⟨oc19, od19, .func (PySem.W.fnOf "__init__" "NotACounts.__init__" (defArgs s_NotACounts____init__) (defBody s_NotACounts____init__) (defScope s_NotACounts____init__) .none kV19 dc19 pm19 an19 cd19 ct19), sl19⟩)
    (c19 : PySem.W.codeIn K cd19 "NotACounts.__init__" = true)
    (k19 : PySem.W.keepIn K (.ref f19) = true)
    (a20 : PySem.W.findIn K (.ref x10) "__init__" = some (some (.ref f20)))
    (i20 : PySem.W.isFn K (.ref f20) = true)
    (l20 : K.lookup f20 = some ⟨oc20, od20, .func (PySem.W.fnOf "__init__" "NotAForm.__init__" (defArgs s_NotAForm____init__) (defBody s_NotAForm____init__) (defScope s_NotAForm____init__) .none kV20 dc20 pm20 an20 cd20 ct20), sl20⟩)
    (c20 : PySem.W.codeIn K cd20 "NotAForm.__init__" = true)
    (k20 : PySem.W.keepIn K (.ref f20) = true)
    (a21 : PySem.W.findIn K (.ref x11) "__init__" = some (some (.ref f21)))
    (i21 : PySem.W.isFn K (.ref f21) = true)
    (l21 : K.lookup f21 = some ⟨oc21, od21, .func (PySem.W.fnOf "__init__" "NotCosts.__init__" (defArgs s_NotCosts____init__) (defBody s_NotCosts____init__) (defScope s_NotCosts____init__) .none kV21 dc21 pm21 an21 cd21 ct21), sl21⟩)
    (c21 : PySem.W.codeIn K cd21 "NotCosts.__init__" = true)
    (k21 : PySem.W.keepIn K (.ref f21) = true)
    (a22 : PySem.W.findIn K (.ref x12) "__init__" = some (some (.ref f22)))
    (i22 : PySem.W.isFn K (.ref f22) = true)
    (l22 : K.lookup f22 = some ⟨oc22, od22, .func (PySem.W.fnOf "__init__" "UnknownInput.__init__" (defArgs s_UnknownInput____init__) (defBody s_UnknownInput____init__) (defScope s_UnknownInput____init__) .none kV22 dc22 pm22 an22 cd22 ct22), sl22⟩)
    (c22 : PySem.W.codeIn K cd22 "UnknownInput.__init__" = true)
    (k22 : PySem.W.keepIn K (.ref f22) = true)
    (a23 : PySem.W.findIn K (.ref x13) "__init__" = some (some (.ref f23)))
    (i23 : PySem.W.isFn K (.ref f23) = true)
    (l23 : K.lookup f23 = some ⟨oc23, od23, .func (PySem.W.fnOf "__init__" "OtherWords.__init__" (defArgs s_OtherWords____init__) (defBody s_OtherWords____init__) (defScope s_OtherWords____init__) .none kV23 dc23 pm23 an23 cd23 ct23), sl23⟩)
    (c23 : PySem.W.codeIn K cd23 "OtherWords.__init__" = true)
    (k23 : PySem.W.keepIn K (.ref f23) = true)
    (a24 : PySem.W.findIn K (.ref x14) "__init__" = some (some (.ref f24)))
    (i24 : PySem.W.isFn K (.ref f24) = true)
    (l24 : K.lookup f24 = some ⟨oc24, od24, .func (PySem.W.fnOf "__init__" "OtherOuts.__init__" (defArgs s_OtherOuts____init__) (defBody s_OtherOuts____init__) (defScope s_OtherOuts____init__) .none kV24 dc24 pm24 an24 cd24 ct24), sl24⟩)
    (c24 : PySem.W.codeIn K cd24 "OtherOuts.__init__" = true)
    (k24 : PySem.W.keepIn K (.ref f24) = true)
    (a25 : PySem.W.findIn K (.ref x15) "__init__" = some (some (.ref f25)))
    (i25 : PySem.W.isFn K (.ref f25) = true)
    (l25 : K.lookup f25 = some ⟨oc25, od25, .func (PySem.W.fnOf "__init__" "TooFar.__init__" (defArgs s_TooFar____init__) (defBody s_TooFar____init__) (defScope s_TooFar____init__) .none kV25 dc25 pm25 an25 cd25 ct25), sl25⟩)
    (c25 : PySem.W.codeIn K cd25 "TooFar.__init__" = true)
    (k25 : PySem.W.keepIn K (.ref f25) = true)
    (a26 : PySem.W.findIn K (.ref x16) "__init__" = some (some (.ref f26)))
    (i26 : PySem.W.isFn K (.ref f26) = true)
    (l26 : K.lookup f26 = some ⟨oc26, od26, .func (PySem.W.fnOf "__init__" "UnknownName.__init__" (defArgs s_UnknownName____init__) (defBody s_UnknownName____init__) (defScope s_UnknownName____init__) .none kV26 dc26 pm26 an26 cd26 ct26), sl26⟩)
    (c26 : PySem.W.codeIn K cd26 "UnknownName.__init__" = true)
    (k26 : PySem.W.keepIn K (.ref f26) = true)
    (a27 : PySem.W.findIn K (.ref x17) "__init__" = some (some (.ref f27)))
    (i27 : PySem.W.isFn K (.ref f27) = true)
    (l27 : K.lookup f27 = some ⟨oc27, od27, .func (PySem.W.fnOf "__init__" "InUse.__init__" (defArgs s_InUse____init__) (defBody s_InUse____init__) (defScope s_InUse____init__) .none kV27 dc27 pm27 an27 cd27 ct27), sl27⟩)
    (c27 : PySem.W.codeIn K cd27 "InUse.__init__" = true)
    (k27 : PySem.W.keepIn K (.ref f27) = true)
    (a28 : PySem.W.findIn K (.ref x18) "__init__" = some (some (.ref f28)))
    (i28 : PySem.W.isFn K (.ref f28) = true)
    (l28 : K.lookup f28 = some ⟨oc28, od28, .func (PySem.W.fnOf "__init__" "NotRight.__init__" (defArgs s_NotRight____init__) (defBody s_NotRight____init__) (defScope s_NotRight____init__) .none kV28 dc28 pm28 an28 cd28 ct28), sl28⟩)
    (c28 : PySem.W.codeIn K cd28 "NotRight.__init__" = true)
    (k28 : PySem.W.keepIn K (.ref f28) = true)
    (a29 : PySem.W.findIn K (.ref x20) "__init__" = some (some (.ref f29)))
    (i29 : PySem.W.isFn K (.ref f29) = true)
    (l29 : K.lookup f29 = some ⟨oc29, od29, .func (PySem.W.fnOf "__init__" "NotKept.__init__" (defArgs s_NotKept____init__) (defBody s_NotKept____init__) (defScope s_NotKept____init__) .none kV29 dc29 pm29 an29 cd29 ct29), sl29⟩)
    (c29 : PySem.W.codeIn K cd29 "NotKept.__init__" = true)
    (k29 : PySem.W.keepIn K (.ref f29) = true)
    (z_int : PySem.W.nsIn K mainGlobals "int" = some none)
    (z_len : PySem.W.nsIn K mainGlobals "len" = some none)
    (z_abs : PySem.W.nsIn K mainGlobals "abs" = some none)
    (z_divmod : PySem.W.nsIn K mainGlobals "divmod" = some none)
    (z_range : PySem.W.nsIn K mainGlobals "range" = some none)
    (z_isinstance : PySem.W.nsIn K mainGlobals "isinstance" = some none)
    (z_ValueError : PySem.W.nsIn K mainGlobals "ValueError" = some none)
    (z_LookupError : PySem.W.nsIn K mainGlobals "LookupError" = some none)
    (z_repr : PySem.W.nsIn K mainGlobals "repr" = some none)
    (z_enumerate : PySem.W.nsIn K mainGlobals "enumerate" = some none)
    (z_list : PySem.W.nsIn K mainGlobals "list" = some none)
    (z_min : PySem.W.nsIn K mainGlobals "min" = some none)
    (z_max : PySem.W.nsIn K mainGlobals "max" = some none)
    (z_all : PySem.W.nsIn K mainGlobals "all" = some none)
    (v_MOST_STEPS : PySem.W.nsIn K mainGlobals "MOST_STEPS" = some (some (.int 8 t_MOST_STEPS)))
    (v_MOST_OFFSET : PySem.W.nsIn K mainGlobals "MOST_OFFSET" = some (some (.int 4 t_MOST_OFFSET)))
    (v_MOST_DISTANCE : PySem.W.nsIn K mainGlobals "MOST_DISTANCE" = some (some (.int 3 t_MOST_DISTANCE)))
    (v_MOST_LINES : PySem.W.nsIn K mainGlobals "MOST_LINES" = some (some (.int 400 t_MOST_LINES)))
    (v_MOST_PLACES : PySem.W.nsIn K mainGlobals "MOST_PLACES" = some (some (.int 80 t_MOST_PLACES)))
    (v_MOST_BOUND : PySem.W.nsIn K mainGlobals "MOST_BOUND" = some (some (.int 12 t_MOST_BOUND)))
    (v_MOST_COUNT : PySem.W.nsIn K mainGlobals "MOST_COUNT" = some (some (.int 400 t_MOST_COUNT)))
    (xn : PySem.W.specialIn K (.builtin "object.__class__") "__get__" = some (some (.builtin "getset_descriptor.__get__")))
    (xt : PySem.W.takesIn K (.builtin "object.__class__") = some true)
    (xq : PySem.W.excIn K x19 (above "LookupError") "LookupError.__new__" = true)
    (nd : (WV :: WM :: [x0, x1, x2, x3, x4, x5, x6, x7, x8, x9, x10, x11, x12, x13, x14, x15, x16, x17, x18, x19, x20]).Nodup) :
    ∃ fd : FuncData, (∀ (s : Shared) (v : Value), BindsTo s fd ⟨[v], []⟩ [("cells", v)]) ∧ ∀ base : Heap, K.In base → base.Ns mainGlobals mg → FG l.prog w K mg base CX0 7 fa fd ["cells"] (spLaw K) := by
  have e := hfa.symm.trans (PySem.W.mg_of X G a9)
  cases e
  have F0 := fun_mk (st := s__law_purse) l0 c0 k0
  have b0 := F0.binds (ps := ["cells", "k"]) fun _ _ _ _ _ _ us hl => match us, hl with | [_, _], _ => rfl
  have F1 := fun_mk (st := s__law_draw) l1 c1 k1
  have b1 := F1.binds (ps := ["purse", "many"]) fun _ _ _ _ _ _ us hl => match us, hl with | [_, _], _ => rfl
  have F2 := fun_mk (st := s__law_signs) l2 c2 k2
  have b2 := F2.binds (ps := ["purse"]) fun _ _ _ _ _ _ us hl => match us, hl with | [_], _ => rfl
  have F3 := fun_mk (st := s__law_sort) l3 c3 k3
  have b3 := F3.binds (ps := ["e"]) fun _ _ _ _ _ _ us hl => match us, hl with | [_], _ => rfl
  have F4 := fun_mk (st := s__law_value) l4 c4 k4
  have b4 := F4.binds (ps := ["purse"]) fun _ _ _ _ _ _ us hl => match us, hl with | [_], _ => rfl
  have F5 := fun_mk (st := s__law_by_place) l5 c5 k5
  have b5 := F5.binds (ps := ["one", "two"]) fun _ _ _ _ _ _ us hl => match us, hl with | [_, _], _ => rfl
  have F6 := fun_mk (st := s__law_by_name) l6 c6 k6
  have b6 := F6.binds (ps := ["one", "two"]) fun _ _ _ _ _ _ us hl => match us, hl with | [_, _], _ => rfl
  have F7 := fun_mk (st := s__law_keeps) l7 c7 k7
  have b7 := F7.binds (ps := ["e", "at", "one", "two"]) fun _ _ _ _ _ _ us hl => match us, hl with | [_, _, _, _], _ => rfl
  have F8 := fun_mk (st := s__law_right) l8 c8 k8
  have b8 := F8.binds (ps := ["purse"]) fun _ _ _ _ _ _ us hl => match us, hl with | [_], _ => rfl
  have F9 := fun_mk (st := s_law) l9 c9 k9
  have b9 := F9.binds (ps := ["cells"]) fun _ _ _ _ _ _ us hl => match us, hl with | [_], _ => rfl
  have F10 := fun_mk (st := s_InvalidText____init__) l10 c10 k10
  have b10 := F10.binds (ps := ["self", "given"]) fun _ _ _ _ _ _ us hl => match us, hl with | [_, _], _ => rfl
  have F11 := fun_mk (st := s_InvalidNumber____init__) l11 c11 k11
  have b11 := F11.binds (ps := ["self", "given"]) fun _ _ _ _ _ _ us hl => match us, hl with | [_, _], _ => rfl
  have F12 := fun_mk (st := s_InvalidArray____init__) l12 c12 k12
  have b12 := F12.binds (ps := ["self", "given"]) fun _ _ _ _ _ _ us hl => match us, hl with | [_, _], _ => rfl
  have F13 := fun_mk (st := s_InvalidCost____init__) l13 c13 k13
  have b13 := F13.binds (ps := ["self", "given"]) fun _ _ _ _ _ _ us hl => match us, hl with | [_, _], _ => rfl
  have F14 := fun_mk (st := s_InvalidName____init__) l14 c14 k14
  have b14 := F14.binds (ps := ["self", "given"]) fun _ _ _ _ _ _ us hl => match us, hl with | [_, _], _ => rfl
  have F15 := fun_mk (st := s_InvalidWish____init__) l15 c15 k15
  have b15 := F15.binds (ps := ["self", "given"]) fun _ _ _ _ _ _ us hl => match us, hl with | [_, _], _ => rfl
  have F16 := fun_mk (st := s_NotALoop____init__) l16 c16 k16
  have b16 := F16.binds (ps := ["self", "given"]) fun _ _ _ _ _ _ us hl => match us, hl with | [_, _], _ => rfl
  have F17 := fun_mk (st := s_NotAProgram____init__) l17 c17 k17
  have b17 := F17.binds (ps := ["self", "given"]) fun _ _ _ _ _ _ us hl => match us, hl with | [_, _], _ => rfl
  have F18 := fun_mk (st := s_NotAWorld____init__) l18 c18 k18
  have b18 := F18.binds (ps := ["self", "given"]) fun _ _ _ _ _ _ us hl => match us, hl with | [_, _], _ => rfl
  have F19 := fun_mk (st := s_NotACounts____init__) l19 c19 k19
  have b19 := F19.binds (ps := ["self", "given"]) fun _ _ _ _ _ _ us hl => match us, hl with | [_, _], _ => rfl
  have F20 := fun_mk (st := s_NotAForm____init__) l20 c20 k20
  have b20 := F20.binds (ps := ["self", "given"]) fun _ _ _ _ _ _ us hl => match us, hl with | [_, _], _ => rfl
  have F21 := fun_mk (st := s_NotCosts____init__) l21 c21 k21
  have b21 := F21.binds (ps := ["self", "given"]) fun _ _ _ _ _ _ us hl => match us, hl with | [_, _], _ => rfl
  have F22 := fun_mk (st := s_UnknownInput____init__) l22 c22 k22
  have b22 := F22.binds (ps := ["self", "given"]) fun _ _ _ _ _ _ us hl => match us, hl with | [_, _], _ => rfl
  have F23 := fun_mk (st := s_OtherWords____init__) l23 c23 k23
  have b23 := F23.binds (ps := ["self", "given"]) fun _ _ _ _ _ _ us hl => match us, hl with | [_, _], _ => rfl
  have F24 := fun_mk (st := s_OtherOuts____init__) l24 c24 k24
  have b24 := F24.binds (ps := ["self", "given"]) fun _ _ _ _ _ _ us hl => match us, hl with | [_, _], _ => rfl
  have F25 := fun_mk (st := s_TooFar____init__) l25 c25 k25
  have b25 := F25.binds (ps := ["self", "given"]) fun _ _ _ _ _ _ us hl => match us, hl with | [_, _], _ => rfl
  have F26 := fun_mk (st := s_UnknownName____init__) l26 c26 k26
  have b26 := F26.binds (ps := ["self", "given"]) fun _ _ _ _ _ _ us hl => match us, hl with | [_, _], _ => rfl
  have F27 := fun_mk (st := s_InUse____init__) l27 c27 k27
  have b27 := F27.binds (ps := ["self", "index"]) fun _ _ _ _ _ _ us hl => match us, hl with | [_, _], _ => rfl
  have F28 := fun_mk (st := s_NotRight____init__) l28 c28 k28
  have b28 := F28.binds (ps := ["self", "count", "where"]) fun _ _ _ _ _ _ us hl => match us, hl with | [_, _, _], _ => rfl
  have F29 := fun_mk (st := s_NotKept____init__) l29 c29 k29
  have b29 := F29.binds (ps := ["self", "index", "shown"]) fun _ _ _ _ _ _ us hl => match us, hl with | [_, _, _], _ => rfl
  refine ⟨PySem.W.fnOf "law" "law" (defArgs s_law) (defBody s_law) (defScope s_law) .none kV9 dc9 pm9 an9 cd9 ct9, fun s v => .of_eq rfl, fun base _ _ => ?_⟩
  let Ct : Nat → Addr := fun i => ([x0, x1, x2, x3, x4, x5, x6, x7, x8, x9, x10, x11, x12, x13, x14, x15, x16, x17, x18, x19, x20]).getD i 0
  have T : Txt K mg := ⟨PySem.W.mg_none_of X G z_int, PySem.W.mg_none_of X G z_len, PySem.W.mg_none_of X G z_abs, PySem.W.mg_none_of X G z_divmod, PySem.W.mg_none_of X G z_range⟩
  have ci0 : Ci K x0 WV "ValueError" "ValueError.__new__" := ⟨⟨_, _, _, _, _, _, _, _, _, _, _, _, _, _, lk_0⟩, sa_0, ga_0, gg_0, kc_0, hd_0, ha_0, tx_0⟩
  have ci1 : Ci K x1 WV "ValueError" "ValueError.__new__" := ⟨⟨_, _, _, _, _, _, _, _, _, _, _, _, _, _, lk_1⟩, sa_1, ga_1, gg_1, kc_1, hd_1, ha_1, tx_1⟩
  have ci2 : Ci K x2 WV "ValueError" "ValueError.__new__" := ⟨⟨_, _, _, _, _, _, _, _, _, _, _, _, _, _, lk_2⟩, sa_2, ga_2, gg_2, kc_2, hd_2, ha_2, tx_2⟩
  have ci3 : Ci K x3 WV "ValueError" "ValueError.__new__" := ⟨⟨_, _, _, _, _, _, _, _, _, _, _, _, _, _, lk_3⟩, sa_3, ga_3, gg_3, kc_3, hd_3, ha_3, tx_3⟩
  have ci4 : Ci K x4 WV "ValueError" "ValueError.__new__" := ⟨⟨_, _, _, _, _, _, _, _, _, _, _, _, _, _, lk_4⟩, sa_4, ga_4, gg_4, kc_4, hd_4, ha_4, tx_4⟩
  have ci5 : Ci K x5 WV "ValueError" "ValueError.__new__" := ⟨⟨_, _, _, _, _, _, _, _, _, _, _, _, _, _, lk_5⟩, sa_5, ga_5, gg_5, kc_5, hd_5, ha_5, tx_5⟩
  have ci6 : Ci K x6 WV "ValueError" "ValueError.__new__" := ⟨⟨_, _, _, _, _, _, _, _, _, _, _, _, _, _, lk_6⟩, sa_6, ga_6, gg_6, kc_6, hd_6, ha_6, tx_6⟩
  have ci7 : Ci K x7 WV "ValueError" "ValueError.__new__" := ⟨⟨_, _, _, _, _, _, _, _, _, _, _, _, _, _, lk_7⟩, sa_7, ga_7, gg_7, kc_7, hd_7, ha_7, tx_7⟩
  have ci8 : Ci K x8 WV "ValueError" "ValueError.__new__" := ⟨⟨_, _, _, _, _, _, _, _, _, _, _, _, _, _, lk_8⟩, sa_8, ga_8, gg_8, kc_8, hd_8, ha_8, tx_8⟩
  have ci9 : Ci K x9 WV "ValueError" "ValueError.__new__" := ⟨⟨_, _, _, _, _, _, _, _, _, _, _, _, _, _, lk_9⟩, sa_9, ga_9, gg_9, kc_9, hd_9, ha_9, tx_9⟩
  have ci10 : Ci K x10 WV "ValueError" "ValueError.__new__" := ⟨⟨_, _, _, _, _, _, _, _, _, _, _, _, _, _, lk_10⟩, sa_10, ga_10, gg_10, kc_10, hd_10, ha_10, tx_10⟩
  have ci11 : Ci K x11 WV "ValueError" "ValueError.__new__" := ⟨⟨_, _, _, _, _, _, _, _, _, _, _, _, _, _, lk_11⟩, sa_11, ga_11, gg_11, kc_11, hd_11, ha_11, tx_11⟩
  have ci12 : Ci K x12 WM "LookupError" "LookupError.__new__" := ⟨⟨_, _, _, _, _, _, _, _, _, _, _, _, _, _, lk_12⟩, sa_12, ga_12, gg_12, kc_12, hd_12, ha_12, tx_12⟩
  have ci13 : Ci K x13 WM "LookupError" "LookupError.__new__" := ⟨⟨_, _, _, _, _, _, _, _, _, _, _, _, _, _, lk_13⟩, sa_13, ga_13, gg_13, kc_13, hd_13, ha_13, tx_13⟩
  have ci14 : Ci K x14 WM "LookupError" "LookupError.__new__" := ⟨⟨_, _, _, _, _, _, _, _, _, _, _, _, _, _, lk_14⟩, sa_14, ga_14, gg_14, kc_14, hd_14, ha_14, tx_14⟩
  have ci15 : Ci K x15 WM "LookupError" "LookupError.__new__" := ⟨⟨_, _, _, _, _, _, _, _, _, _, _, _, _, _, lk_15⟩, sa_15, ga_15, gg_15, kc_15, hd_15, ha_15, tx_15⟩
  have ci16 : Ci K x16 WM "LookupError" "LookupError.__new__" := ⟨⟨_, _, _, _, _, _, _, _, _, _, _, _, _, _, lk_16⟩, sa_16, ga_16, gg_16, kc_16, hd_16, ha_16, tx_16⟩
  have ci17 : Ci K x17 WM "LookupError" "LookupError.__new__" := ⟨⟨_, _, _, _, _, _, _, _, _, _, _, _, _, _, lk_17⟩, sa_17, ga_17, gg_17, kc_17, hd_17, ha_17, tx_17⟩
  have ci18 : Ci K x18 WM "LookupError" "LookupError.__new__" := ⟨⟨_, _, _, _, _, _, _, _, _, _, _, _, _, _, lk_18⟩, sa_18, ga_18, gg_18, kc_18, hd_18, ha_18, tx_18⟩
  have ci19 : Ci K x19 WM "LookupError" "LookupError.__new__" := ⟨⟨_, _, _, _, _, _, _, _, _, _, _, _, _, _, lk_19⟩, sa_19, ga_19, gg_19, kc_19, hd_19, ha_19, tx_19⟩
  have ci20 : Ci K x20 WM "LookupError" "LookupError.__new__" := ⟨⟨_, _, _, _, _, _, _, _, _, _, _, _, _, _, lk_20⟩, sa_20, ga_20, gg_20, kc_20, hd_20, ha_20, tx_20⟩
  have cis : ∀ i, i < 21 → ∃ B n, Ci K (Ct i) (if i < 12 then WV else WM) B n ∧ (above B).contains (.type "ValueError") = decide (i < 12) ∧ (above B).contains (.type "LookupError") = decide (12 ≤ i) := fun i hi => match i, hi with
    | 0, _ => ⟨_, _, ci0, by decide +kernel, by decide +kernel⟩
    | 1, _ => ⟨_, _, ci1, by decide +kernel, by decide +kernel⟩
    | 2, _ => ⟨_, _, ci2, by decide +kernel, by decide +kernel⟩
    | 3, _ => ⟨_, _, ci3, by decide +kernel, by decide +kernel⟩
    | 4, _ => ⟨_, _, ci4, by decide +kernel, by decide +kernel⟩
    | 5, _ => ⟨_, _, ci5, by decide +kernel, by decide +kernel⟩
    | 6, _ => ⟨_, _, ci6, by decide +kernel, by decide +kernel⟩
    | 7, _ => ⟨_, _, ci7, by decide +kernel, by decide +kernel⟩
    | 8, _ => ⟨_, _, ci8, by decide +kernel, by decide +kernel⟩
    | 9, _ => ⟨_, _, ci9, by decide +kernel, by decide +kernel⟩
    | 10, _ => ⟨_, _, ci10, by decide +kernel, by decide +kernel⟩
    | 11, _ => ⟨_, _, ci11, by decide +kernel, by decide +kernel⟩
    | 12, _ => ⟨_, _, ci12, by decide +kernel, by decide +kernel⟩
    | 13, _ => ⟨_, _, ci13, by decide +kernel, by decide +kernel⟩
    | 14, _ => ⟨_, _, ci14, by decide +kernel, by decide +kernel⟩
    | 15, _ => ⟨_, _, ci15, by decide +kernel, by decide +kernel⟩
    | 16, _ => ⟨_, _, ci16, by decide +kernel, by decide +kernel⟩
    | 17, _ => ⟨_, _, ci17, by decide +kernel, by decide +kernel⟩
    | 18, _ => ⟨_, _, ci18, by decide +kernel, by decide +kernel⟩
    | 19, _ => ⟨_, _, ci19, by decide +kernel, by decide +kernel⟩
    | 20, _ => ⟨_, _, ci20, by decide +kernel, by decide +kernel⟩
    | n + 21, h => absurd h (by omega)
  have xc : ∀ i, i < 21 → Xc K (Ct i) := fun i hi => match i, hi with
    | 0, _ => ci0.xc rootV xn xt (by decide +kernel)
    | 1, _ => ci1.xc rootV xn xt (by decide +kernel)
    | 2, _ => ci2.xc rootV xn xt (by decide +kernel)
    | 3, _ => ci3.xc rootV xn xt (by decide +kernel)
    | 4, _ => ci4.xc rootV xn xt (by decide +kernel)
    | 5, _ => ci5.xc rootV xn xt (by decide +kernel)
    | 6, _ => ci6.xc rootV xn xt (by decide +kernel)
    | 7, _ => ci7.xc rootV xn xt (by decide +kernel)
    | 8, _ => ci8.xc rootV xn xt (by decide +kernel)
    | 9, _ => ci9.xc rootV xn xt (by decide +kernel)
    | 10, _ => ci10.xc rootV xn xt (by decide +kernel)
    | 11, _ => ci11.xc rootV xn xt (by decide +kernel)
    | 12, _ => ci12.xc rootL xn xt (by decide +kernel)
    | 13, _ => ci13.xc rootL xn xt (by decide +kernel)
    | 14, _ => ci14.xc rootL xn xt (by decide +kernel)
    | 15, _ => ci15.xc rootL xn xt (by decide +kernel)
    | 16, _ => ci16.xc rootL xn xt (by decide +kernel)
    | 17, _ => ci17.xc rootL xn xt (by decide +kernel)
    | 18, _ => ci18.xc rootL xn xt (by decide +kernel)
    | 19, _ => ci19.xc rootL xn xt (by decide +kernel)
    | 20, _ => ci20.xc rootL xn xt (by decide +kernel)
    | n + 21, h => absurd h (by omega)
  have nd2 := List.nodup_cons.mp nd
  have nd3 := List.nodup_cons.mp nd2.2
  have mem : ∀ i, i < 21 → Ct i ∈ [x0, x1, x2, x3, x4, x5, x6, x7, x8, x9, x10, x11, x12, x13, x14, x15, x16, x17, x18, x19, x20] := fun i hi => match i, hi with
    | 0, _ => by simp [Ct]
    | 1, _ => by simp [Ct]
    | 2, _ => by simp [Ct]
    | 3, _ => by simp [Ct]
    | 4, _ => by simp [Ct]
    | 5, _ => by simp [Ct]
    | 6, _ => by simp [Ct]
    | 7, _ => by simp [Ct]
    | 8, _ => by simp [Ct]
    | 9, _ => by simp [Ct]
    | 10, _ => by simp [Ct]
    | 11, _ => by simp [Ct]
    | 12, _ => by simp [Ct]
    | 13, _ => by simp [Ct]
    | 14, _ => by simp [Ct]
    | 15, _ => by simp [Ct]
    | 16, _ => by simp [Ct]
    | 17, _ => by simp [Ct]
    | 18, _ => by simp [Ct]
    | 19, _ => by simp [Ct]
    | 20, _ => by simp [Ct]
    | n + 21, h => absurd h (by omega)
  have neV : ∀ i, i < 21 → Ct i ≠ WV := fun i hi z => nd2.1 (by rw [← z]; exact List.mem_cons_of_mem _ (mem i hi))
  have neM : ∀ i, i < 21 → Ct i ≠ WM := fun i hi z => nd3.1 (by rw [← z]; exact mem i hi)
  have VM : WV ≠ WM := fun z => nd2.1 (by rw [z]; exact List.mem_cons_self)
  have inj : ∀ i j, i < 21 → j < 21 → i ≠ j → Ct i ≠ Ct j := fun i j hi hj n z => n (inj_of nd3.2 rfl hi hj z)
  have TS : TxS K mg WV WM Ct := ⟨PySem.W.mg_none_of X G z_isinstance, PySem.W.mg_none_of X G z_ValueError, PySem.W.mg_none_of X G z_LookupError, PySem.W.mg_of X G nWV, PySem.W.mg_of X G nWM, ?_, xc, ?_, ?_, ?_, ?_, ?_⟩
  rotate_left
  · intro i
    match i with
    | ⟨0, _⟩ => exact PySem.W.mg_of X G n_0
    | ⟨1, _⟩ => exact PySem.W.mg_of X G n_1
    | ⟨2, _⟩ => exact PySem.W.mg_of X G n_2
    | ⟨3, _⟩ => exact PySem.W.mg_of X G n_3
    | ⟨4, _⟩ => exact PySem.W.mg_of X G n_4
    | ⟨5, _⟩ => exact PySem.W.mg_of X G n_5
    | ⟨6, _⟩ => exact PySem.W.mg_of X G n_6
    | ⟨7, _⟩ => exact PySem.W.mg_of X G n_7
    | ⟨8, _⟩ => exact PySem.W.mg_of X G n_8
    | ⟨9, _⟩ => exact PySem.W.mg_of X G n_9
    | ⟨10, _⟩ => exact PySem.W.mg_of X G n_10
    | ⟨11, _⟩ => exact PySem.W.mg_of X G n_11
    | ⟨12, _⟩ => exact PySem.W.mg_of X G n_12
    | ⟨13, _⟩ => exact PySem.W.mg_of X G n_13
    | ⟨14, _⟩ => exact PySem.W.mg_of X G n_14
    | ⟨15, _⟩ => exact PySem.W.mg_of X G n_15
    | ⟨16, _⟩ => exact PySem.W.mg_of X G n_16
    | ⟨17, _⟩ => exact PySem.W.mg_of X G n_17
    | ⟨18, _⟩ => exact PySem.W.mg_of X G n_18
    | ⟨19, _⟩ => exact PySem.W.mg_of X G n_19
    | ⟨20, _⟩ => exact PySem.W.mg_of X G n_20
    | ⟨n + 21, h⟩ => exact absurd h (by omega)
  · intro i j hi hj
    by_cases z : i = j
    · subst z
      rw [decide_eq_true rfl]
      exact kit_self (by simp)
    · rw [decide_eq_false z]
      obtain ⟨_, _, c1, _⟩ := cis i hi
      obtain ⟨_, _, c2, _⟩ := cis j hj
      refine c1.kit c2 (inj i j hi hj z) ?_
      split
      · exact (neV j hj).symm
      · exact (neM j hj).symm
  · intro i hi
    obtain ⟨_, _, c1, _⟩ := cis i hi
    rw [c1.kitW icWV tyWV (neV i hi)]
    by_cases z : i < 12
    · rw [if_pos z, decide_eq_true rfl, decide_eq_true z]
    · rw [if_neg z, decide_eq_false VM.symm, decide_eq_false z]
  · intro i hi
    obtain ⟨_, _, c1, _⟩ := cis i hi
    rw [c1.kitW icWM tyWM (neM i hi)]
    by_cases z : i < 12
    · rw [if_pos z, decide_eq_false VM, decide_eq_false (by omega)]
    · rw [if_neg z, decide_eq_true rfl, decide_eq_true (by omega)]
  · intro i hi
    obtain ⟨_, _, c1, e1, e2⟩ := cis i hi
    rw [c1.kitT (by decide +kernel), e1]
  · intro i hi
    obtain ⟨_, _, c1, e1, e2⟩ := cis i hi
    rw [c1.kitT (by decide +kernel), e2]
  have TE : TxE K mg Ct := ⟨xc, PySem.W.mg_of X G n_19, xq, kc_19⟩
  have TK : TxK K mg Ct := ⟨PySem.W.mg_none_of X G z_repr, xc, fun i hi => ?_, f_17_index, f_18_count, f_18_where, f_20_index, f_20_shown⟩
  rotate_left
  · match i, hi with
    | 0, _ => exact f_0_given
    | 1, _ => exact f_1_given
    | 2, _ => exact f_2_given
    | 3, _ => exact f_3_given
    | 4, _ => exact f_4_given
    | 5, _ => exact f_5_given
    | 6, _ => exact f_6_given
    | 7, _ => exact f_7_given
    | 8, _ => exact f_8_given
    | 9, _ => exact f_9_given
    | 10, _ => exact f_10_given
    | 11, _ => exact f_11_given
    | 12, _ => exact f_12_given
    | 13, _ => exact f_13_given
    | 14, _ => exact f_14_given
    | 15, _ => exact f_15_given
    | 16, _ => exact f_16_given
    | n + 17, h => exact absurd h (by omega)
  have TR : TxR K mg := ⟨PySem.W.mg_none_of X G z_enumerate, PySem.W.mg_none_of X G z_list, PySem.W.mg_none_of X G z_range⟩
  have TA : TxA mg := ⟨PySem.W.mg_none_of X G z_len, PySem.W.mg_none_of X G z_min, PySem.W.mg_none_of X G z_max, PySem.W.mg_none_of X G z_range, PySem.W.mg_none_of X G z_repr, PySem.W.mg_none_of X G z_all, ⟨_, PySem.W.mg_of X G v_MOST_STEPS⟩, ⟨_, PySem.W.mg_of X G v_MOST_OFFSET⟩, ⟨_, PySem.W.mg_of X G v_MOST_DISTANCE⟩, ⟨_, PySem.W.mg_of X G v_MOST_LINES⟩, ⟨_, PySem.W.mg_of X G v_MOST_PLACES⟩, ⟨_, PySem.W.mg_of X G v_MOST_BOUND⟩, ⟨_, PySem.W.mg_of X G v_MOST_COUNT⟩⟩
  have P0 : FG l.prog w K mg base CX0 1 f10 _ ["self", "given"] (spIni1 (Ct 0) "given") := ok_ini_InvalidText (C := x0) F10 (xc 0 (by decide)) f_0_given
  have P1 : FG l.prog w K mg base CX0 1 f11 _ ["self", "given"] (spIni1 (Ct 1) "given") := ok_ini_InvalidNumber (C := x1) F11 (xc 1 (by decide)) f_1_given
  have P2 : FG l.prog w K mg base CX0 1 f12 _ ["self", "given"] (spIni1 (Ct 2) "given") := ok_ini_InvalidArray (C := x2) F12 (xc 2 (by decide)) f_2_given
  have P3 : FG l.prog w K mg base CX0 1 f13 _ ["self", "given"] (spIni1 (Ct 3) "given") := ok_ini_InvalidCost (C := x3) F13 (xc 3 (by decide)) f_3_given
  have P4 : FG l.prog w K mg base CX0 1 f14 _ ["self", "given"] (spIni1 (Ct 4) "given") := ok_ini_InvalidName (C := x4) F14 (xc 4 (by decide)) f_4_given
  have P5 : FG l.prog w K mg base CX0 1 f15 _ ["self", "given"] (spIni1 (Ct 5) "given") := ok_ini_InvalidWish (C := x5) F15 (xc 5 (by decide)) f_5_given
  have P6 : FG l.prog w K mg base CX0 1 f16 _ ["self", "given"] (spIni1 (Ct 6) "given") := ok_ini_NotALoop (C := x6) F16 (xc 6 (by decide)) f_6_given
  have P7 : FG l.prog w K mg base CX0 1 f17 _ ["self", "given"] (spIni1 (Ct 7) "given") := ok_ini_NotAProgram (C := x7) F17 (xc 7 (by decide)) f_7_given
  have P8 : FG l.prog w K mg base CX0 1 f18 _ ["self", "given"] (spIni1 (Ct 8) "given") := ok_ini_NotAWorld (C := x8) F18 (xc 8 (by decide)) f_8_given
  have P9 : FG l.prog w K mg base CX0 1 f19 _ ["self", "given"] (spIni1 (Ct 9) "given") := ok_ini_NotACounts (C := x9) F19 (xc 9 (by decide)) f_9_given
  have P10 : FG l.prog w K mg base CX0 1 f20 _ ["self", "given"] (spIni1 (Ct 10) "given") := ok_ini_NotAForm (C := x10) F20 (xc 10 (by decide)) f_10_given
  have P11 : FG l.prog w K mg base CX0 1 f21 _ ["self", "given"] (spIni1 (Ct 11) "given") := ok_ini_NotCosts (C := x11) F21 (xc 11 (by decide)) f_11_given
  have P12 : FG l.prog w K mg base CX0 1 f22 _ ["self", "given"] (spIni1 (Ct 12) "given") := ok_ini_UnknownInput (C := x12) F22 (xc 12 (by decide)) f_12_given
  have P13 : FG l.prog w K mg base CX0 1 f23 _ ["self", "given"] (spIni1 (Ct 13) "given") := ok_ini_OtherWords (C := x13) F23 (xc 13 (by decide)) f_13_given
  have P14 : FG l.prog w K mg base CX0 1 f24 _ ["self", "given"] (spIni1 (Ct 14) "given") := ok_ini_OtherOuts (C := x14) F24 (xc 14 (by decide)) f_14_given
  have P15 : FG l.prog w K mg base CX0 1 f25 _ ["self", "given"] (spIni1 (Ct 15) "given") := ok_ini_TooFar (C := x15) F25 (xc 15 (by decide)) f_15_given
  have P16 : FG l.prog w K mg base CX0 1 f26 _ ["self", "given"] (spIni1 (Ct 16) "given") := ok_ini_UnknownName (C := x16) F26 (xc 16 (by decide)) f_16_given
  have P17 : FG l.prog w K mg base CX0 1 f27 _ ["self", "index"] (spIni1 (Ct 17) "index") := ok_ini_InUse (C := x17) F27 (xc 17 (by decide)) f_17_index
  have P18 : FG l.prog w K mg base CX0 1 f28 _ ["self", "count", "where"] (spIni2 (Ct 18) "count" "where") := ok_ini_NotRight (C := x18) F28 (xc 18 (by decide)) f_18_count f_18_where
  have P20 : FG l.prog w K mg base CX0 1 f29 _ ["self", "index", "shown"] (spIni2 (Ct 20) "index" "shown") := ok_ini_NotKept (C := x20) F29 (xc 20 (by decide)) f_20_index f_20_shown
  have M : Mks l.prog w K mg base Ct := ⟨⟨⟨_, _, P0, a10, beq_iff_eq.mp i10, PySem.W.mg_of X G n_0, b10⟩⟩,
    ⟨⟨_, _, P0, a10, beq_iff_eq.mp i10, PySem.W.mg_of X G n_0, ⟨fun s us ws h1 h2 => match us, h1, ws, h2 with | [_], _, [_], _ => .of_eq rfl, fun r t => Vals.append r t⟩⟩⟩,
    ⟨⟨_, _, P1, a11, beq_iff_eq.mp i11, PySem.W.mg_of X G n_1, b11⟩⟩,
    ⟨⟨_, _, P1, a11, beq_iff_eq.mp i11, PySem.W.mg_of X G n_1, ⟨fun s us ws h1 h2 => match us, h1, ws, h2 with | [_], _, [_], _ => .of_eq rfl, fun r t => Vals.append r t⟩⟩⟩,
    ⟨⟨_, _, P2, a12, beq_iff_eq.mp i12, PySem.W.mg_of X G n_2, b12⟩⟩,
    ⟨⟨_, _, P2, a12, beq_iff_eq.mp i12, PySem.W.mg_of X G n_2, ⟨fun s us ws h1 h2 => match us, h1, ws, h2 with | [_], _, [_], _ => .of_eq rfl, fun r t => Vals.append r t⟩⟩⟩,
    ⟨⟨_, _, P3, a13, beq_iff_eq.mp i13, PySem.W.mg_of X G n_3, b13⟩⟩,
    ⟨⟨_, _, P3, a13, beq_iff_eq.mp i13, PySem.W.mg_of X G n_3, ⟨fun s us ws h1 h2 => match us, h1, ws, h2 with | [_], _, [_], _ => .of_eq rfl, fun r t => Vals.append r t⟩⟩⟩,
    ⟨⟨_, _, P4, a14, beq_iff_eq.mp i14, PySem.W.mg_of X G n_4, b14⟩⟩,
    ⟨⟨_, _, P4, a14, beq_iff_eq.mp i14, PySem.W.mg_of X G n_4, ⟨fun s us ws h1 h2 => match us, h1, ws, h2 with | [_], _, [_], _ => .of_eq rfl, fun r t => Vals.append r t⟩⟩⟩,
    ⟨⟨_, _, P5, a15, beq_iff_eq.mp i15, PySem.W.mg_of X G n_5, b15⟩⟩,
    ⟨⟨_, _, P5, a15, beq_iff_eq.mp i15, PySem.W.mg_of X G n_5, ⟨fun s us ws h1 h2 => match us, h1, ws, h2 with | [_], _, [_], _ => .of_eq rfl, fun r t => Vals.append r t⟩⟩⟩,
    ⟨⟨_, _, P6, a16, beq_iff_eq.mp i16, PySem.W.mg_of X G n_6, b16⟩⟩,
    ⟨⟨_, _, P6, a16, beq_iff_eq.mp i16, PySem.W.mg_of X G n_6, ⟨fun s us ws h1 h2 => match us, h1, ws, h2 with | [_], _, [_], _ => .of_eq rfl, fun r t => Vals.append r t⟩⟩⟩,
    ⟨⟨_, _, P7, a17, beq_iff_eq.mp i17, PySem.W.mg_of X G n_7, b17⟩⟩,
    ⟨⟨_, _, P7, a17, beq_iff_eq.mp i17, PySem.W.mg_of X G n_7, ⟨fun s us ws h1 h2 => match us, h1, ws, h2 with | [_], _, [_], _ => .of_eq rfl, fun r t => Vals.append r t⟩⟩⟩,
    ⟨⟨_, _, P8, a18, beq_iff_eq.mp i18, PySem.W.mg_of X G n_8, b18⟩⟩,
    ⟨⟨_, _, P8, a18, beq_iff_eq.mp i18, PySem.W.mg_of X G n_8, ⟨fun s us ws h1 h2 => match us, h1, ws, h2 with | [_], _, [_], _ => .of_eq rfl, fun r t => Vals.append r t⟩⟩⟩,
    ⟨⟨_, _, P9, a19, beq_iff_eq.mp i19, PySem.W.mg_of X G n_9, b19⟩⟩,
    ⟨⟨_, _, P9, a19, beq_iff_eq.mp i19, PySem.W.mg_of X G n_9, ⟨fun s us ws h1 h2 => match us, h1, ws, h2 with | [_], _, [_], _ => .of_eq rfl, fun r t => Vals.append r t⟩⟩⟩,
    ⟨⟨_, _, P10, a20, beq_iff_eq.mp i20, PySem.W.mg_of X G n_10, b20⟩⟩,
    ⟨⟨_, _, P10, a20, beq_iff_eq.mp i20, PySem.W.mg_of X G n_10, ⟨fun s us ws h1 h2 => match us, h1, ws, h2 with | [_], _, [_], _ => .of_eq rfl, fun r t => Vals.append r t⟩⟩⟩,
    ⟨⟨_, _, P11, a21, beq_iff_eq.mp i21, PySem.W.mg_of X G n_11, b21⟩⟩,
    ⟨⟨_, _, P11, a21, beq_iff_eq.mp i21, PySem.W.mg_of X G n_11, ⟨fun s us ws h1 h2 => match us, h1, ws, h2 with | [_], _, [_], _ => .of_eq rfl, fun r t => Vals.append r t⟩⟩⟩,
    ⟨⟨_, _, P12, a22, beq_iff_eq.mp i22, PySem.W.mg_of X G n_12, b22⟩⟩,
    ⟨⟨_, _, P12, a22, beq_iff_eq.mp i22, PySem.W.mg_of X G n_12, ⟨fun s us ws h1 h2 => match us, h1, ws, h2 with | [_], _, [_], _ => .of_eq rfl, fun r t => Vals.append r t⟩⟩⟩,
    ⟨⟨_, _, P13, a23, beq_iff_eq.mp i23, PySem.W.mg_of X G n_13, b23⟩⟩,
    ⟨⟨_, _, P13, a23, beq_iff_eq.mp i23, PySem.W.mg_of X G n_13, ⟨fun s us ws h1 h2 => match us, h1, ws, h2 with | [_], _, [_], _ => .of_eq rfl, fun r t => Vals.append r t⟩⟩⟩,
    ⟨⟨_, _, P14, a24, beq_iff_eq.mp i24, PySem.W.mg_of X G n_14, b24⟩⟩,
    ⟨⟨_, _, P14, a24, beq_iff_eq.mp i24, PySem.W.mg_of X G n_14, ⟨fun s us ws h1 h2 => match us, h1, ws, h2 with | [_], _, [_], _ => .of_eq rfl, fun r t => Vals.append r t⟩⟩⟩,
    ⟨⟨_, _, P15, a25, beq_iff_eq.mp i25, PySem.W.mg_of X G n_15, b25⟩⟩,
    ⟨⟨_, _, P15, a25, beq_iff_eq.mp i25, PySem.W.mg_of X G n_15, ⟨fun s us ws h1 h2 => match us, h1, ws, h2 with | [_], _, [_], _ => .of_eq rfl, fun r t => Vals.append r t⟩⟩⟩,
    ⟨⟨_, _, P16, a26, beq_iff_eq.mp i26, PySem.W.mg_of X G n_16, b26⟩⟩,
    ⟨⟨_, _, P16, a26, beq_iff_eq.mp i26, PySem.W.mg_of X G n_16, ⟨fun s us ws h1 h2 => match us, h1, ws, h2 with | [_], _, [_], _ => .of_eq rfl, fun r t => Vals.append r t⟩⟩⟩,
    ⟨⟨_, _, P17, a27, beq_iff_eq.mp i27, PySem.W.mg_of X G n_17, b27⟩⟩,
    ⟨⟨_, _, P17, a27, beq_iff_eq.mp i27, PySem.W.mg_of X G n_17, ⟨fun s us ws h1 h2 => match us, h1, ws, h2 with | [_], _, [_], _ => .of_eq rfl, fun r t => Vals.append r t⟩⟩⟩,
    ⟨⟨_, _, P18, a28, beq_iff_eq.mp i28, PySem.W.mg_of X G n_18, b28⟩⟩,
    ⟨⟨_, _, P18, a28, beq_iff_eq.mp i28, PySem.W.mg_of X G n_18, ⟨fun s us ws h1 h2 => match us, h1, ws, h2 with | [_], _, [_, _], _ => .of_eq rfl, fun r t => Vals.append r (Vals.reverse t)⟩⟩⟩,
    ⟨⟨_, _, P20, a29, beq_iff_eq.mp i29, PySem.W.mg_of X G n_20, b29⟩⟩,
    ⟨⟨_, _, P20, a29, beq_iff_eq.mp i29, PySem.W.mg_of X G n_20, ⟨fun s us ws h1 h2 => match us, h1, ws, h2 with | [_], _, [_, _], _ => .of_eq rfl, fun r t => Vals.append r (Vals.reverse t)⟩⟩⟩⟩
  have C_purse : Cal l.prog w K mg base "_law_purse" 1 ["cells", "k"] (spPurse K) := ⟨⟨_, _, ok_purse F0 T, PySem.W.mg_of X G a0, k0, b0⟩⟩
  have C_draw : Cal l.prog w K mg base "_law_draw" 1 ["purse", "many"] (spDraw) := ⟨⟨_, _, ok_draw F1 T, PySem.W.mg_of X G a1, k1, b1⟩⟩
  have C_signs : Cal l.prog w K mg base "_law_signs" 2 ["purse"] (spSigns) := ⟨⟨_, _, ok_signs F2 T C_draw, PySem.W.mg_of X G a2, k2, b2⟩⟩
  have C_sort : Cal l.prog w K mg base "_law_sort" 1 ["e"] (spSort Ct) := ⟨⟨_, _, ok_sort F3 TS, PySem.W.mg_of X G a3, k3, b3⟩⟩
  have C_value : Cal l.prog w K mg base "_law_value" 3 ["purse"] (spValue) := ⟨⟨_, _, ok_value F4 C_draw C_signs, PySem.W.mg_of X G a4, k4, b4⟩⟩
  have C_place : Cal l.prog w K mg base "_law_by_place" 3 ["one", "two"] (spAll Ct) := ⟨⟨_, _, ok_place F5 TE M, PySem.W.mg_of X G a5, k5, b5⟩⟩
  have C_byname : Cal l.prog w K mg base "_law_by_name" 3 ["one", "two"] (spAll Ct) := ⟨⟨_, _, ok_byname F6 TE M, PySem.W.mg_of X G a6, k6, b6⟩⟩
  have C_keeps : Cal l.prog w K mg base "_law_keeps" 1 ["e", "at", "one", "two"] (spKeeps Ct) := ⟨⟨_, _, ok_keeps F7 TK, PySem.W.mg_of X G a7, k7, b7⟩⟩
  have C_right : Cal l.prog w K mg base "_law_right" 5 ["purse"] (spRight) := ⟨⟨_, _, ok_right F8 TR C_value C_place C_byname C_sort C_keeps, PySem.W.mg_of X G a8, k8, b8⟩⟩
  exact ok_law F9 TA C_purse C_right
end Lk
open PySem PySem.W PyProof.Rows
set_option maxRecDepth 100000 in
set_option maxHeartbeats 0 in
theorem PySem.Challenge.cw_overlapturns_k01_limits_and_errors_holds : PySem.Challenge.rw_overlapturns_k01_limits_and_errors.Holds := by
  w_on; o_law; k_head; (case hw => w_witness2)
  k_fill
  refine G.walk_g (l := PySem.Challenge.rw_overlapturns_k01_limits_and_errors) (n := 63) (k := 7) (x := "cells") (sp := Lk.spLaw) rfl (by decide) rfl ⟨rfl, by decide, by decide⟩ (fun w h Y => PySem.W.kIn_of Y) ?F (fun K H a ns hl q => ⟨a, ns, rfl, q, hl, fun _ => rfl⟩)
  case F =>
    intro w mg fa h KX G hmg
    refine' Lk.all_mk KX G hmg ?nWV ?icWV ?tyWV ?nWM ?icWM ?tyWM ?n_0 ?lk_0 ?sa_0 ?ga_0 ?gg_0 ?kc_0 ?hd_0 ?ha_0 ?tx_0 ?f_0_given ?n_1 ?lk_1 ?sa_1 ?ga_1 ?gg_1 ?kc_1 ?hd_1 ?ha_1 ?tx_1 ?f_1_given ?n_2 ?lk_2 ?sa_2 ?ga_2 ?gg_2 ?kc_2 ?hd_2 ?ha_2 ?tx_2 ?f_2_given ?n_3 ?lk_3 ?sa_3 ?ga_3 ?gg_3 ?kc_3 ?hd_3 ?ha_3 ?tx_3 ?f_3_given ?n_4 ?lk_4 ?sa_4 ?ga_4 ?gg_4 ?kc_4 ?hd_4 ?ha_4 ?tx_4 ?f_4_given ?n_5 ?lk_5 ?sa_5 ?ga_5 ?gg_5 ?kc_5 ?hd_5 ?ha_5 ?tx_5 ?f_5_given ?n_6 ?lk_6 ?sa_6 ?ga_6 ?gg_6 ?kc_6 ?hd_6 ?ha_6 ?tx_6 ?f_6_given ?n_7 ?lk_7 ?sa_7 ?ga_7 ?gg_7 ?kc_7 ?hd_7 ?ha_7 ?tx_7 ?f_7_given ?n_8 ?lk_8 ?sa_8 ?ga_8 ?gg_8 ?kc_8 ?hd_8 ?ha_8 ?tx_8 ?f_8_given ?n_9 ?lk_9 ?sa_9 ?ga_9 ?gg_9 ?kc_9 ?hd_9 ?ha_9 ?tx_9 ?f_9_given ?n_10 ?lk_10 ?sa_10 ?ga_10 ?gg_10 ?kc_10 ?hd_10 ?ha_10 ?tx_10 ?f_10_given ?n_11 ?lk_11 ?sa_11 ?ga_11 ?gg_11 ?kc_11 ?hd_11 ?ha_11 ?tx_11 ?f_11_given ?n_12 ?lk_12 ?sa_12 ?ga_12 ?gg_12 ?kc_12 ?hd_12 ?ha_12 ?tx_12 ?f_12_given ?n_13 ?lk_13 ?sa_13 ?ga_13 ?gg_13 ?kc_13 ?hd_13 ?ha_13 ?tx_13 ?f_13_given ?n_14 ?lk_14 ?sa_14 ?ga_14 ?gg_14 ?kc_14 ?hd_14 ?ha_14 ?tx_14 ?f_14_given ?n_15 ?lk_15 ?sa_15 ?ga_15 ?gg_15 ?kc_15 ?hd_15 ?ha_15 ?tx_15 ?f_15_given ?n_16 ?lk_16 ?sa_16 ?ga_16 ?gg_16 ?kc_16 ?hd_16 ?ha_16 ?tx_16 ?f_16_given ?n_17 ?lk_17 ?sa_17 ?ga_17 ?gg_17 ?kc_17 ?hd_17 ?ha_17 ?tx_17 ?f_17_index ?n_18 ?lk_18 ?sa_18 ?ga_18 ?gg_18 ?kc_18 ?hd_18 ?ha_18 ?tx_18 ?f_18_count ?f_18_where ?n_19 ?lk_19 ?sa_19 ?ga_19 ?gg_19 ?kc_19 ?hd_19 ?ha_19 ?tx_19 ?n_20 ?lk_20 ?sa_20 ?ga_20 ?gg_20 ?kc_20 ?hd_20 ?ha_20 ?tx_20 ?f_20_index ?f_20_shown ?a0 ?l0 ?c0 ?k0 ?a1 ?l1 ?c1 ?k1 ?a2 ?l2 ?c2 ?k2 ?a3 ?l3 ?c3 ?k3 ?a4 ?l4 ?c4 ?k4 ?a5 ?l5 ?c5 ?k5 ?a6 ?l6 ?c6 ?k6 ?a7 ?l7 ?c7 ?k7 ?a8 ?l8 ?c8 ?k8 ?a9 ?l9 ?c9 ?k9 ?a10 ?i10 ?l10 ?c10 ?k10 ?a11 ?i11 ?l11 ?c11 ?k11 ?a12 ?i12 ?l12 ?c12 ?k12 ?a13 ?i13 ?l13 ?c13 ?k13 ?a14 ?i14 ?l14 ?c14 ?k14 ?a15 ?i15 ?l15 ?c15 ?k15 ?a16 ?i16 ?l16 ?c16 ?k16 ?a17 ?i17 ?l17 ?c17 ?k17 ?a18 ?i18 ?l18 ?c18 ?k18 ?a19 ?i19 ?l19 ?c19 ?k19 ?a20 ?i20 ?l20 ?c20 ?k20 ?a21 ?i21 ?l21 ?c21 ?k21 ?a22 ?i22 ?l22 ?c22 ?k22 ?a23 ?i23 ?l23 ?c23 ?k23 ?a24 ?i24 ?l24 ?c24 ?k24 ?a25 ?i25 ?l25 ?c25 ?k25 ?a26 ?i26 ?l26 ?c26 ?k26 ?a27 ?i27 ?l27 ?c27 ?k27 ?a28 ?i28 ?l28 ?c28 ?k28 ?a29 ?i29 ?l29 ?c29 ?k29 ?z_int ?z_len ?z_abs ?z_divmod ?z_range ?z_isinstance ?z_ValueError ?z_LookupError ?z_repr ?z_enumerate ?z_list ?z_min ?z_max ?z_all ?v_MOST_STEPS ?v_MOST_OFFSET ?v_MOST_DISTANCE ?v_MOST_LINES ?v_MOST_PLACES ?v_MOST_BOUND ?v_MOST_COUNT ?xn ?xt ?xq ?nd
    (case nWV => k_is); (case icWV => k_is); (case tyWV => k_is); (case nWM => k_is); (case icWM => k_is); (case tyWM => k_is)
    (case n_0 => k_is); (case lk_0 => k_is); (case sa_0 => k_is); (case ga_0 => k_is); (case gg_0 => k_is); (case kc_0 => k_is)
    (case hd_0 => k_is); (case ha_0 => k_is); (case tx_0 => k_is); (case f_0_given => k_is); (case n_1 => k_is); (case lk_1 => k_is)
    (case sa_1 => k_is); (case ga_1 => k_is); (case gg_1 => k_is); (case kc_1 => k_is); (case hd_1 => k_is); (case ha_1 => k_is)
    (case tx_1 => k_is); (case f_1_given => k_is); (case n_2 => k_is); (case lk_2 => k_is); (case sa_2 => k_is); (case ga_2 => k_is)
    (case gg_2 => k_is); (case kc_2 => k_is); (case hd_2 => k_is); (case ha_2 => k_is); (case tx_2 => k_is); (case f_2_given => k_is)
    (case n_3 => k_is); (case lk_3 => k_is); (case sa_3 => k_is); (case ga_3 => k_is); (case gg_3 => k_is); (case kc_3 => k_is)
    (case hd_3 => k_is); (case ha_3 => k_is); (case tx_3 => k_is); (case f_3_given => k_is); (case n_4 => k_is); (case lk_4 => k_is)
    (case sa_4 => k_is); (case ga_4 => k_is); (case gg_4 => k_is); (case kc_4 => k_is); (case hd_4 => k_is); (case ha_4 => k_is)
    (case tx_4 => k_is); (case f_4_given => k_is); (case n_5 => k_is); (case lk_5 => k_is); (case sa_5 => k_is); (case ga_5 => k_is)
    (case gg_5 => k_is); (case kc_5 => k_is); (case hd_5 => k_is); (case ha_5 => k_is); (case tx_5 => k_is); (case f_5_given => k_is)
    (case n_6 => k_is); (case lk_6 => k_is); (case sa_6 => k_is); (case ga_6 => k_is); (case gg_6 => k_is); (case kc_6 => k_is)
    (case hd_6 => k_is); (case ha_6 => k_is); (case tx_6 => k_is); (case f_6_given => k_is); (case n_7 => k_is); (case lk_7 => k_is)
    (case sa_7 => k_is); (case ga_7 => k_is); (case gg_7 => k_is); (case kc_7 => k_is); (case hd_7 => k_is); (case ha_7 => k_is)
    (case tx_7 => k_is); (case f_7_given => k_is); (case n_8 => k_is); (case lk_8 => k_is); (case sa_8 => k_is); (case ga_8 => k_is)
    (case gg_8 => k_is); (case kc_8 => k_is); (case hd_8 => k_is); (case ha_8 => k_is); (case tx_8 => k_is); (case f_8_given => k_is)
    (case n_9 => k_is); (case lk_9 => k_is); (case sa_9 => k_is); (case ga_9 => k_is); (case gg_9 => k_is); (case kc_9 => k_is)
    (case hd_9 => k_is); (case ha_9 => k_is); (case tx_9 => k_is); (case f_9_given => k_is); (case n_10 => k_is); (case lk_10 => k_is)
    (case sa_10 => k_is); (case ga_10 => k_is); (case gg_10 => k_is); (case kc_10 => k_is); (case hd_10 => k_is); (case ha_10 => k_is)
    (case tx_10 => k_is); (case f_10_given => k_is); (case n_11 => k_is); (case lk_11 => k_is); (case sa_11 => k_is); (case ga_11 => k_is)
    (case gg_11 => k_is); (case kc_11 => k_is); (case hd_11 => k_is); (case ha_11 => k_is); (case tx_11 => k_is); (case f_11_given => k_is)
    (case n_12 => k_is); (case lk_12 => k_is); (case sa_12 => k_is); (case ga_12 => k_is); (case gg_12 => k_is); (case kc_12 => k_is)
    (case hd_12 => k_is); (case ha_12 => k_is); (case tx_12 => k_is); (case f_12_given => k_is); (case n_13 => k_is); (case lk_13 => k_is)
    (case sa_13 => k_is); (case ga_13 => k_is); (case gg_13 => k_is); (case kc_13 => k_is); (case hd_13 => k_is); (case ha_13 => k_is)
    (case tx_13 => k_is); (case f_13_given => k_is); (case n_14 => k_is); (case lk_14 => k_is); (case sa_14 => k_is); (case ga_14 => k_is)
    (case gg_14 => k_is); (case kc_14 => k_is); (case hd_14 => k_is); (case ha_14 => k_is); (case tx_14 => k_is); (case f_14_given => k_is)
    (case n_15 => k_is); (case lk_15 => k_is); (case sa_15 => k_is); (case ga_15 => k_is); (case gg_15 => k_is); (case kc_15 => k_is)
    (case hd_15 => k_is); (case ha_15 => k_is); (case tx_15 => k_is); (case f_15_given => k_is); (case n_16 => k_is); (case lk_16 => k_is)
    (case sa_16 => k_is); (case ga_16 => k_is); (case gg_16 => k_is); (case kc_16 => k_is); (case hd_16 => k_is); (case ha_16 => k_is)
    (case tx_16 => k_is); (case f_16_given => k_is); (case n_17 => k_is); (case lk_17 => k_is); (case sa_17 => k_is); (case ga_17 => k_is)
    (case gg_17 => k_is); (case kc_17 => k_is); (case hd_17 => k_is); (case ha_17 => k_is); (case tx_17 => k_is); (case f_17_index => k_is)
    (case n_18 => k_is); (case lk_18 => k_is); (case sa_18 => k_is); (case ga_18 => k_is); (case gg_18 => k_is); (case kc_18 => k_is)
    (case hd_18 => k_is); (case ha_18 => k_is); (case tx_18 => k_is); (case f_18_count => k_is); (case f_18_where => k_is); (case n_19 => k_is)
    (case lk_19 => k_is); (case sa_19 => k_is); (case ga_19 => k_is); (case gg_19 => k_is); (case kc_19 => k_is); (case hd_19 => k_is)
    (case ha_19 => k_is); (case tx_19 => k_is); (case n_20 => k_is); (case lk_20 => k_is); (case sa_20 => k_is); (case ga_20 => k_is)
    (case gg_20 => k_is); (case kc_20 => k_is); (case hd_20 => k_is); (case ha_20 => k_is); (case tx_20 => k_is); (case f_20_index => k_is)
    (case f_20_shown => k_is); (case a0 => k_is); (case l0 => k_is); (case c0 => k_is); (case k0 => k_is); (case a1 => k_is)
    (case l1 => k_is); (case c1 => k_is); (case k1 => k_is); (case a2 => k_is); (case l2 => k_is); (case c2 => k_is)
    (case k2 => k_is); (case a3 => k_is); (case l3 => k_is); (case c3 => k_is); (case k3 => k_is); (case a4 => k_is)
    (case l4 => k_is); (case c4 => k_is); (case k4 => k_is); (case a5 => k_is); (case l5 => k_is); (case c5 => k_is)
    (case k5 => k_is); (case a6 => k_is); (case l6 => k_is); (case c6 => k_is); (case k6 => k_is); (case a7 => k_is)
    (case l7 => k_is); (case c7 => k_is); (case k7 => k_is); (case a8 => k_is); (case l8 => k_is); (case c8 => k_is)
    (case k8 => k_is); (case a9 => k_is); (case l9 => k_is); (case c9 => k_is); (case k9 => k_is); (case a10 => k_is)
    (case i10 => k_is); (case l10 => k_is); (case c10 => k_is); (case k10 => k_is); (case a11 => k_is); (case i11 => k_is)
    (case l11 => k_is); (case c11 => k_is); (case k11 => k_is); (case a12 => k_is); (case i12 => k_is); (case l12 => k_is)
    (case c12 => k_is); (case k12 => k_is); (case a13 => k_is); (case i13 => k_is); (case l13 => k_is); (case c13 => k_is)
    (case k13 => k_is); (case a14 => k_is); (case i14 => k_is); (case l14 => k_is); (case c14 => k_is); (case k14 => k_is)
    (case a15 => k_is); (case i15 => k_is); (case l15 => k_is); (case c15 => k_is); (case k15 => k_is); (case a16 => k_is)
    (case i16 => k_is); (case l16 => k_is); (case c16 => k_is); (case k16 => k_is); (case a17 => k_is); (case i17 => k_is)
    (case l17 => k_is); (case c17 => k_is); (case k17 => k_is); (case a18 => k_is); (case i18 => k_is); (case l18 => k_is)
    (case c18 => k_is); (case k18 => k_is); (case a19 => k_is); (case i19 => k_is); (case l19 => k_is); (case c19 => k_is)
    (case k19 => k_is); (case a20 => k_is); (case i20 => k_is); (case l20 => k_is); (case c20 => k_is); (case k20 => k_is)
    (case a21 => k_is); (case i21 => k_is); (case l21 => k_is); (case c21 => k_is); (case k21 => k_is); (case a22 => k_is)
    (case i22 => k_is); (case l22 => k_is); (case c22 => k_is); (case k22 => k_is); (case a23 => k_is); (case i23 => k_is)
    (case l23 => k_is); (case c23 => k_is); (case k23 => k_is); (case a24 => k_is); (case i24 => k_is); (case l24 => k_is)
    (case c24 => k_is); (case k24 => k_is); (case a25 => k_is); (case i25 => k_is); (case l25 => k_is); (case c25 => k_is)
    (case k25 => k_is); (case a26 => k_is); (case i26 => k_is); (case l26 => k_is); (case c26 => k_is); (case k26 => k_is)
    (case a27 => k_is); (case i27 => k_is); (case l27 => k_is); (case c27 => k_is); (case k27 => k_is); (case a28 => k_is)
    (case i28 => k_is); (case l28 => k_is); (case c28 => k_is); (case k28 => k_is); (case a29 => k_is); (case i29 => k_is)
    (case l29 => k_is); (case c29 => k_is); (case k29 => k_is); (case z_int => k_is); (case z_len => k_is); (case z_abs => k_is)
    (case z_divmod => k_is); (case z_range => k_is); (case z_isinstance => k_is); (case z_ValueError => k_is); (case z_LookupError => k_is); (case z_repr => k_is)
    (case z_enumerate => k_is); (case z_list => k_is); (case z_min => k_is); (case z_max => k_is); (case z_all => k_is); (case v_MOST_STEPS => k_is)
    (case v_MOST_OFFSET => k_is); (case v_MOST_DISTANCE => k_is); (case v_MOST_LINES => k_is); (case v_MOST_PLACES => k_is); (case v_MOST_BOUND => k_is); (case v_MOST_COUNT => k_is)
    (case xn => k_is); (case xt => k_is); (case xq => k_exc); (case nd => decide)
